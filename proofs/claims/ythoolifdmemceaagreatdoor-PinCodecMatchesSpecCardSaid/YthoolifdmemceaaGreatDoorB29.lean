/-
Contracts of digit, number, parts and decimal of the reference of layer 10.
Contracts of number and decimal of the reference of layer 10 (written by tools/gen-Ip2.py).
Contract of Numeric of the reference of layer 10.
-/
import Derived.Test.YthoolifdmemceaaGreatDoorB28
import Derived.Test.YthoolifdmemceaaGreatDoorB12
import Derived.Test.YthoolifdmemceaaGreatDoorB07
import Derived.BigQuiet
namespace Go.Proofs.YthoolifdmemceaaGreatDoor
section
open Go.RowKit

set_option maxHeartbeats 1000000 in
theorem refDigit_any (c : UInt8) (w : World) :
    Calls Tryz.prog 48 #[.int .u8 (c.toNat : Int)] w fun e w' => e = .returned (.int .i64 (digV c : Nat)) ∧ w = w' := by
  have hl := byte_lt c
  obtain ⟨y, hy⟩ : ∃ y : Int, y = (c.toNat : Int) := ⟨_, rfl⟩
  have hy0 : 0 ≤ y := by omega
  rw [← hy] at hl ⊢
  have HY := Lib.hid hy
  clear hy
  by_cases h1 : (48 : Int) ≤ y ∧ y ≤ 57
  · obtain ⟨h1, h2⟩ := h1
    have HV : Hid (y - 48 = (digV c : Nat)) := by show _ = _; have := HY.out; unfold digV; rw [if_pos (by omega)]; omega
    go_enter Tryz.func48, Tryz.ntmps48
    go_wp2
    go_ret
    exact ⟨ret_int HV.out, rfl⟩
  · by_cases h2 : (97 : Int) ≤ y ∧ y ≤ 102
    · obtain ⟨h2, h3⟩ := h2
      have h4 : ¬ y ≤ 57 := by omega
      have h5 : (48 : Int) ≤ y := by omega
      have HV : Hid (y - 97 + 10 = (digV c : Nat)) := by show _ = _; have := HY.out; unfold digV; rw [if_neg (by omega), if_pos (by omega)]; omega
      clear h1
      go_enter Tryz.func48, Tryz.ntmps48
      go_wp2
      go_ret
      exact ⟨ret_int HV.out, rfl⟩
    · by_cases h3 : (65 : Int) ≤ y ∧ y ≤ 70
      · obtain ⟨h3, h4⟩ := h3
        have h5 : ¬ y ≤ 57 := by omega
        have h6 : (48 : Int) ≤ y := by omega
        have h7 : ¬ (97 : Int) ≤ y := by omega
        have HV : Hid (y - 65 + 10 = (digV c : Nat)) := by show _ = _; have := HY.out; unfold digV; rw [if_neg (by omega), if_neg (by omega), if_pos (by omega)]; omega
        clear h1 h2
        go_enter Tryz.func48, Tryz.ntmps48
        go_wp2
        go_ret
        exact ⟨ret_int HV.out, rfl⟩
      · have HV : Hid ((99 : Int) = (digV c : Nat)) := by show _ = _; have := HY.out; unfold digV; rw [if_neg (by omega), if_neg (by omega), if_neg (by omega)]; rfl
        by_cases g1 : (48 : Int) ≤ y
        · have g2 : ¬ y ≤ 57 := fun h => h1 ⟨g1, h⟩
          by_cases g3 : (65 : Int) ≤ y
          · have g4 : ¬ y ≤ 70 := fun h => h3 ⟨g3, h⟩
            by_cases g5 : (97 : Int) ≤ y
            · have g6 : ¬ y ≤ 102 := fun h => h2 ⟨g5, h⟩
              clear h1 h2 h3
              go_enter Tryz.func48, Tryz.ntmps48
              go_wp2
              go_ret
              exact ⟨ret_int HV.out, rfl⟩
            · clear h1 h2 h3
              go_enter Tryz.func48, Tryz.ntmps48
              go_wp2
              go_ret
              exact ⟨ret_int HV.out, rfl⟩
          · have g5 : ¬ (97 : Int) ≤ y := by omega
            clear h1 h2 h3
            go_enter Tryz.func48, Tryz.ntmps48
            go_wp2
            go_ret
            exact ⟨ret_int HV.out, rfl⟩
        · have g3 : ¬ (65 : Int) ≤ y := by omega
          have g5 : ¬ (97 : Int) ≤ y := by omega
          clear h1 h2 h3
          go_enter Tryz.func48, Tryz.ntmps48
          go_wp2
          go_ret
          exact ⟨ret_int HV.out, rfl⟩

set_option maxHeartbeats 1000000 in
theorem refParts_any (s : ByteArray) (w : World) (hs : s.size ≤ 1000000000) :
    Calls Tryz.prog 38 #[.string s] w (StrsPost (partsL (ls s)) w) := by
  have hspl := refSplit_any s 46 w hs
  have hpos := splitL_pos 46 (ls s)
  have hlen := splitL_length 46 (ls s)
  rw [ls_length] at hlen
  have HP : Hid (partsL (ls s) = if 1 < (splitL 46 (ls s)).length ∧ (splitL 46 (ls s)).getLast? = some [] then (splitL 46 (ls s)).dropLast else splitL 46 (ls s)) := Lib.hid rfl
  have HLAST := Lib.hid (last_nil hpos)
  generalize splitL 46 (ls s) = P at *
  obtain ⟨n, hn⟩ : ∃ n, n = P.length := ⟨_, rfl⟩
  go_enter Tryz.func38, Tryz.ntmps38
  go_wp2_with fail
  refine hspl.mono ?_
  rintro e w1 ⟨v, m, rfl, hown, hb⟩
  obtain ⟨A, c, rfl, hh, hmc⟩ := Has.of_own hown
  obtain rfl : m = n := by have := hh.1; rw [wv_length] at this; omega
  clear hspl hown
  obtain ⟨b, off, rfl, hcell⟩ := str_cell hh (m - 1) (by omega)
  by_cases h1 : 1 < m
  · have hd : decide ((1 : Int) < (m : Int)) = true := decide_eq_true (by omega)
    have hm1 : (m : Int) - 1 = ((m - 1 : Nat) : Int) := by omega
    obtain ⟨k, hk⟩ : ∃ k, k = m - 1 := ⟨_, rfl⟩
    rw [← hk] at hcell hm1
    have hkm : k < m := by omega
    have hkb : k ≤ 1000000001 := by omega
    have hmb : m ≤ 1000000001 := by omega
    have hkc : k ≤ c := by omega
    have hbe := bs_nil_iff (P.getD k [])
    obtain ⟨X, hX⟩ : ∃ X, X = bs (P.getD k []) := ⟨_, rfl⟩
    rw [← hX] at hbe hcell
    clear hX
    by_cases h2 : P.getD k [] = []
    · have hlast : P.getLast? = some [] := by
        rw [HLAST.out, ← hn, ← hk]
        rw [List.getD_eq_getElem?_getD, List.getElem?_eq_getElem (by omega), Option.getD_some] at h2 ⊢
        exact h2
      have HQ : Hid (partsL (ls s) = P.take k) := by
        show _ = _
        rw [HP.out, if_pos ⟨by omega, hlast⟩, List.dropLast_eq_take, ← hn, hk]
      rw [decide_eq_true h2] at hbe
      have HN := Lib.hid hn
      have hh2 := hh.take k (by omega)
      have HK := Lib.hid hk
      clear hn hk h2 hlast
      go_wp2
      go_ret
      have hl : (P.take k).length = k := by have := HN.out; have := HK.out; simp; omega
      refine ⟨some ⟨b, off, none⟩, c, ?_, ?_, ?_, hb⟩
      · rw [HQ.out, hl]; rfl
      · rw [HQ.out, hl]; exact hkc
      · rw [HQ.out, hl]
        have e : wv (P.take k) = (wv P).take k := by simp [wv, List.map_take]
        rw [e]; exact hh2
    · have hlast : ¬ P.getLast? = some [] := by
        rw [HLAST.out, ← hn, ← hk]
        rw [List.getD_eq_getElem?_getD, List.getElem?_eq_getElem (by omega), Option.getD_some] at h2 ⊢
        exact h2
      have HQ : Hid (partsL (ls s) = P) := by
        show _ = _
        rw [HP.out, if_neg (fun h => hlast h.2)]
      rw [decide_eq_false h2] at hbe
      have HN := Lib.hid hn
      clear hn hk h2 hlast
      go_wp2
      go_ret
      refine ⟨some ⟨b, off, none⟩, c, ?_, ?_, ?_, hb⟩
      · rw [HQ.out, ← HN.out]; rfl
      · rw [HQ.out, ← HN.out]; exact hmc
      · rw [HQ.out, ← HN.out]; exact hh
  · have hd : decide ((1 : Int) < (m : Int)) = false := decide_eq_false (by omega)
    have HQ : Hid (partsL (ls s) = P) := by
      show _ = _
      rw [HP.out, if_neg (fun h => h1 (by omega))]
    have HN := Lib.hid hn
    clear hn
    go_wp2
    go_ret
    refine ⟨some ⟨b, off, none⟩, c, ?_, ?_, ?_, hb⟩
    · rw [HQ.out, ← HN.out]; rfl
    · rw [HQ.out, ← HN.out]; exact hmc
    · rw [HQ.out, ← HN.out]; exact hh
end

section
open Go.RowKit

/-- A number that is limited. -/
def satN (x : Nat) : Nat := min x 1099511627776
theorem satN_step (x B d : Nat) (hB : 0 < B) : satN (satN x * B + d) = satN (x * B + d) := by
  unfold satN
  rcases Nat.lt_or_ge x 1099511627776 with h | h
  · rw [Nat.min_eq_left (Nat.le_of_lt h)]
  · rw [Nat.min_eq_right h]
    have h1 : 1099511627776 * 1 ≤ 1099511627776 * B := Nat.mul_le_mul_left _ hB
    have h2 : 1099511627776 * B ≤ x * B := Nat.mul_le_mul_right _ h
    omega
theorem satN_le (x : Nat) : satN x ≤ 1099511627776 := by unfold satN; omega
theorem satN_lt (x b : Nat) (hb : b ≤ 1099511627776) : satN x < b ↔ x < b := by unfold satN; omega
theorem satN_eq (x : Nat) (h : x ≤ 1099511627776) : satN x = x := by unfold satN; omega
/-- The number of a part, as the reference answers it, and whether there is one. -/
def nV (l : List UInt8) : Int := (satN ((numL l).getD 0) : Nat)
def nK (l : List UInt8) : Bool := (numL l).isSome
theorem nV_range (l : List UInt8) : 0 ≤ nV l ∧ nV l ≤ 1099511627776 := by unfold nV; have := satN_le ((numL l).getD 0); omega
theorem num_yes {l r : List UInt8} {B : Nat} (hl : l ≠ []) (hb : baseL l = (B, r)) (ha : r.all (fun c => decide (digV c < B)) = true) : nV l = (satN (valB B 0 r) : Nat) ∧ nK l = true := by
  unfold nV nK numL
  rw [if_neg hl, hb, if_pos ha]
  exact ⟨rfl, rfl⟩
theorem num_no {l r : List UInt8} {B : Nat} (hl : l ≠ []) (hb : baseL l = (B, r)) (ha : ¬ r.all (fun c => decide (digV c < B)) = true) : nV l = 0 ∧ nK l = false := by
  unfold nV nK numL
  rw [if_neg hl, hb, if_neg ha]
  exact ⟨rfl, rfl⟩
theorem valB_take_succ (B : Nat) (t : ByteArray) (k : Nat) (h : k < t.size) : valB B 0 ((ls t).take (k + 1)) = valB B 0 ((ls t).take k) * B + digV t[k] := by
  rw [take_ls_succ t k h, valB_append]; rfl
theorem all_take_no {p : UInt8 → Bool} (t : ByteArray) (k : Nat) (h : k < t.size) (hp : p t[k] = false) : ¬ (ls t).all p = true := by
  rw [List.all_eq_true]
  intro hall
  have hm : t[k] ∈ ls t := by
    have hk : k < (ls t).length := by rw [ls_length]; exact h
    have := List.getElem_mem hk
    rwa [ls_getE t k h] at this
  rw [hall _ hm] at hp
  cases hp
theorem ls_ne {s : ByteArray} (h : 0 < s.size) : ls s ≠ [] := by
  intro e
  have := ls_length s
  rw [e] at this
  simp at this
  omega
theorem ls_two (s : ByteArray) (h : 2 ≤ s.size) : ls s = s[0] :: s[1] :: (ls s).drop 2 := by
  have e := drop_ls s 0 (by omega)
  rw [List.drop_zero] at e
  rw [e, drop_ls s 1 (by omega)]
  simp
theorem ls_drop (s : ByteArray) (k : Nat) : ls (s.extract k s.size) = (ls s).drop k := by
  rw [sub_extract, ls_bs]
  unfold sub
  exact List.take_of_length_le (by rw [List.length_drop, ls_length]; omega)

set_option maxHeartbeats 4000000 in
theorem refNumber_any (s : ByteArray) (w : World) (hs : s.size ≤ 1000000000) :
    Calls Tryz.prog 40 #[.string s] w fun e w' => e = .returned (.tuple #[.int .i64 (nV (ls s)), .bool (nK (ls s))]) ∧ Below w.heap.size w w' := by
  by_cases h0 : s.size = 0
  · have hbe : (s.toList == ([] : List UInt8)) = true := by rw [toList_ls]; have := ls_length s; cases hx : ls s with
      | nil => rfl
      | cons c r => rw [hx] at this; simp at this; omega
    have HN : Hid (nV (ls s) = 0 ∧ nK (ls s) = false) := by
      have : ls s = [] := List.eq_nil_of_length_eq_zero (by rw [ls_length]; exact h0)
      rw [this]
      exact Lib.hid ⟨rfl, rfl⟩
    clear h0
    go_enter Tryz.func40, Tryz.ntmps40
    go_wp2
    go_ret2
    exact ⟨by rw [HN.out.1, HN.out.2]; rfl, Below.refl _ _⟩
  · have hne := ls_ne (s := s) (by omega)
    have hbe : (s.toList == ([] : List UInt8)) = false := by rw [toList_ls]; cases hx : ls s with
      | nil => exact absurd hx hne
      | cons c r => rfl
    have HNE := Lib.hid hne
    clear hne
    by_cases h2 : 2 ≤ s.size
    · have h2i : (2 : Int) ≤ (s.size : Int) := by omega
      have h2d : decide ((2 : Int) ≤ (s.size : Int)) = true := decide_eq_true h2i
      have hl0 : 0 < s.size := by omega
      have hl1 : 1 < s.size := by omega
      have HTWO := Lib.hid (ls_two s h2)
      by_cases hz : s[0] = 48
      · have hq0 : ((s[0].toNat : Int) == 48) = true := by rw [hz]; rfl
        have HZ0 := Lib.hid hz
        clear hz
        by_cases hx : s[1] = 120 ∨ s[1] = 88
        · have HB0 : Hid (baseL (ls s) = (16, (ls s).drop 2)) := by
            show _ = _
            rw [HTWO.out, HZ0.out]
            exact baseL_16 _ _ hx
          rcases hx with hx | hx
          · have hq1 : ((s[1].toNat : Int) == 120) = true := by rw [hx]; rfl
            clear hx
            go_enter Tryz.func40, Tryz.ntmps40
            go_wp2
            go_quiet (fail)
            have HTS : Hid ((s.extract 2 s.size).size ≤ 1000000000) := by show _ ≤ _; rw [ByteArray.size_extract]; omega
            have HE := Lib.hid (ls_drop s 2)
            have HB : Hid (baseL (ls s) = (16, ls (s.extract 2 s.size))) := by show _ = _; rw [HB0.out, HE.out]
            generalize s.extract 2 s.size = t at *
            go_wp2
            have hts : t.size ≤ 1000000000 := HTS.out
            go_loop [5, 6] (fun n i => ∃ (k : Nat) (z : Int), k ≤ t.size ∧ i = .int .i64 k ∧ n = .int .i64 z ∧ Hid (z = (satN (valB 16 0 ((ls t).take k)) : Nat)) ∧ Hid (((ls t).take k).all (fun c => decide (digV c < 16)) = true)) (fun _ i => t.size - (intOf i).toNat)
            case atStart => exact ⟨0, 0, Nat.zero_le _, rfl, rfl, Lib.hid rfl, Lib.hid rfl⟩
            case round =>
              obtain ⟨k, z, hk, rfl, rfl, HZ, HALL⟩ := hrel
              by_cases hlt : k < t.size
              · have hd := refDigit_any t[k]
                have hz1 : 0 ≤ z := by rw [HZ.out]; omega
                have hz2 : z ≤ 1099511627776 := by rw [HZ.out]; have := satN_le (valB 16 0 ((ls t).take k)); omega
                obtain ⟨d, hde⟩ : ∃ d : Int, d = (digV t[k] : Nat) := ⟨_, rfl⟩
                have hd0 : 0 ≤ d := by omega
                rw [← hde] at hd
                by_cases hdb : d < 16
                · have hge : ¬ (16 : Int) ≤ d := by omega
                  have hdd : decide ((16 : Int) ≤ d) = false := decide_eq_false hge
                  obtain ⟨z2, hz3⟩ : ∃ z2, min (z * 16 + d) 1099511627776 = z2 := ⟨_, rfl⟩
                  have hmin : ∀ (W : World) ts ty, (Builtin.min_ ts ty #[.int .i64 (z * 16 + d), .int .i64 1099511627776]).run Tryz.prog W = .ok (.int .i64 z2) W := fun W ts ty => min_two W ts ty _ _ _ hz3
                  have HZ2 : Hid (z2 = (satN (valB 16 0 ((ls t).take (k + 1))) : Nat)) := by
                    show _ = _
                    have e := satN_step (valB 16 0 ((ls t).take k)) 16 (digV t[k]) (by decide)
                    rw [valB_take_succ 16 t k hlt, ← e, ← hz3, HZ.out, hde]
                    unfold satN
                    omega
                  have HA2 : Hid (((ls t).take (k + 1)).all (fun c => decide (digV c < 16)) = true) := by
                    refine Lib.hid (take_all_succ _ t k hlt HALL.out ?_)
                    exact decide_eq_true (by omega)
                  clear hz3 hde
                  go_wp2_with (go_at_call 48; refine (hd _).mono ?_; rintro e w' ⟨rfl, rfl⟩)
                  go_round
                  case rel => exact ⟨k + 1, z2, by omega, by go_num, rfl, HZ2, HA2⟩
                  case measure => simp [intOf]; omega
                · have hge : (16 : Int) ≤ d := by omega
                  have hdd : decide ((16 : Int) ≤ d) = true := decide_eq_true hge
                  have HN := Lib.hid (num_no HNE.out HB.out (all_take_no t k hlt (decide_eq_false (by omega))))
                  clear hde
                  go_wp2_with (go_at_call 48; refine (hd _).mono ?_; rintro e w' ⟨rfl, rfl⟩)
                  go_ret2
                  exact ⟨by rw [HN.out.1, HN.out.2]; rfl, by first | exact below_drewN (Below.refl _ _) _ | exact below_drewN _ _⟩
              · obtain rfl : k = t.size := by omega
                have HN : Hid (nV (ls s) = z ∧ nK (ls s) = true) := by
                  have hz := HZ.out
                  have ha := HALL.out
                  rw [take_ls_all] at hz ha
                  have := num_yes HNE.out HB.out ha
                  rw [hz]
                  exact Lib.hid this
                go_wp2
                go_ret2
                exact ⟨by rw [HN.out.1, HN.out.2]; rfl, by first | exact below_drewN (Below.refl _ _) _ | exact below_drewN _ _⟩
          · have hq1 : ((s[1].toNat : Int) == 120) = false := by rw [hx]; rfl
            have hq2 : ((s[1].toNat : Int) == 88) = true := by rw [hx]; rfl
            clear hx
            go_enter Tryz.func40, Tryz.ntmps40
            go_wp2
            go_quiet (fail)
            have HTS : Hid ((s.extract 2 s.size).size ≤ 1000000000) := by show _ ≤ _; rw [ByteArray.size_extract]; omega
            have HE := Lib.hid (ls_drop s 2)
            have HB : Hid (baseL (ls s) = (16, ls (s.extract 2 s.size))) := by show _ = _; rw [HB0.out, HE.out]
            generalize s.extract 2 s.size = t at *
            go_wp2
            have hts : t.size ≤ 1000000000 := HTS.out
            go_loop [5, 6] (fun n i => ∃ (k : Nat) (z : Int), k ≤ t.size ∧ i = .int .i64 k ∧ n = .int .i64 z ∧ Hid (z = (satN (valB 16 0 ((ls t).take k)) : Nat)) ∧ Hid (((ls t).take k).all (fun c => decide (digV c < 16)) = true)) (fun _ i => t.size - (intOf i).toNat)
            case atStart => exact ⟨0, 0, Nat.zero_le _, rfl, rfl, Lib.hid rfl, Lib.hid rfl⟩
            case round =>
              obtain ⟨k, z, hk, rfl, rfl, HZ, HALL⟩ := hrel
              by_cases hlt : k < t.size
              · have hd := refDigit_any t[k]
                have hz1 : 0 ≤ z := by rw [HZ.out]; omega
                have hz2 : z ≤ 1099511627776 := by rw [HZ.out]; have := satN_le (valB 16 0 ((ls t).take k)); omega
                obtain ⟨d, hde⟩ : ∃ d : Int, d = (digV t[k] : Nat) := ⟨_, rfl⟩
                have hd0 : 0 ≤ d := by omega
                rw [← hde] at hd
                by_cases hdb : d < 16
                · have hge : ¬ (16 : Int) ≤ d := by omega
                  have hdd : decide ((16 : Int) ≤ d) = false := decide_eq_false hge
                  obtain ⟨z2, hz3⟩ : ∃ z2, min (z * 16 + d) 1099511627776 = z2 := ⟨_, rfl⟩
                  have hmin : ∀ (W : World) ts ty, (Builtin.min_ ts ty #[.int .i64 (z * 16 + d), .int .i64 1099511627776]).run Tryz.prog W = .ok (.int .i64 z2) W := fun W ts ty => min_two W ts ty _ _ _ hz3
                  have HZ2 : Hid (z2 = (satN (valB 16 0 ((ls t).take (k + 1))) : Nat)) := by
                    show _ = _
                    have e := satN_step (valB 16 0 ((ls t).take k)) 16 (digV t[k]) (by decide)
                    rw [valB_take_succ 16 t k hlt, ← e, ← hz3, HZ.out, hde]
                    unfold satN
                    omega
                  have HA2 : Hid (((ls t).take (k + 1)).all (fun c => decide (digV c < 16)) = true) := by
                    refine Lib.hid (take_all_succ _ t k hlt HALL.out ?_)
                    exact decide_eq_true (by omega)
                  clear hz3 hde
                  go_wp2_with (go_at_call 48; refine (hd _).mono ?_; rintro e w' ⟨rfl, rfl⟩)
                  go_round
                  case rel => exact ⟨k + 1, z2, by omega, by go_num, rfl, HZ2, HA2⟩
                  case measure => simp [intOf]; omega
                · have hge : (16 : Int) ≤ d := by omega
                  have hdd : decide ((16 : Int) ≤ d) = true := decide_eq_true hge
                  have HN := Lib.hid (num_no HNE.out HB.out (all_take_no t k hlt (decide_eq_false (by omega))))
                  clear hde
                  go_wp2_with (go_at_call 48; refine (hd _).mono ?_; rintro e w' ⟨rfl, rfl⟩)
                  go_ret2
                  exact ⟨by rw [HN.out.1, HN.out.2]; rfl, by first | exact below_drewN (Below.refl _ _) _ | exact below_drewN _ _⟩
              · obtain rfl : k = t.size := by omega
                have HN : Hid (nV (ls s) = z ∧ nK (ls s) = true) := by
                  have hz := HZ.out
                  have ha := HALL.out
                  rw [take_ls_all] at hz ha
                  have := num_yes HNE.out HB.out ha
                  rw [hz]
                  exact Lib.hid this
                go_wp2
                go_ret2
                exact ⟨by rw [HN.out.1, HN.out.2]; rfl, by first | exact below_drewN (Below.refl _ _) _ | exact below_drewN _ _⟩
        · have HB0 : Hid (baseL (ls s) = (8, (ls s).drop 1)) := by
            show _ = _
            rw [HTWO.out, HZ0.out]
            exact baseL_8 _ _ hx
          have hq1 : ((s[1].toNat : Int) == 120) = false := by
            rw [beq_eq_false_iff_ne]
            exact fun e => hx (.inl (UInt8.toNat_inj.1 (by rw [show (120 : UInt8).toNat = 120 from rfl]; omega)))
          have hq2 : ((s[1].toNat : Int) == 88) = false := by
            rw [beq_eq_false_iff_ne]
            exact fun e => hx (.inr (UInt8.toNat_inj.1 (by rw [show (88 : UInt8).toNat = 88 from rfl]; omega)))
          clear hx
          go_enter Tryz.func40, Tryz.ntmps40
          go_wp2
          go_quiet (fail)
          have HTS : Hid ((s.extract 1 s.size).size ≤ 1000000000) := by show _ ≤ _; rw [ByteArray.size_extract]; omega
          have HE := Lib.hid (ls_drop s 1)
          have HB : Hid (baseL (ls s) = (8, ls (s.extract 1 s.size))) := by show _ = _; rw [HB0.out, HE.out]
          generalize s.extract 1 s.size = t at *
          go_wp2
          have hts : t.size ≤ 1000000000 := HTS.out
          go_loop [5, 6] (fun n i => ∃ (k : Nat) (z : Int), k ≤ t.size ∧ i = .int .i64 k ∧ n = .int .i64 z ∧ Hid (z = (satN (valB 8 0 ((ls t).take k)) : Nat)) ∧ Hid (((ls t).take k).all (fun c => decide (digV c < 8)) = true)) (fun _ i => t.size - (intOf i).toNat)
          case atStart => exact ⟨0, 0, Nat.zero_le _, rfl, rfl, Lib.hid rfl, Lib.hid rfl⟩
          case round =>
            obtain ⟨k, z, hk, rfl, rfl, HZ, HALL⟩ := hrel
            by_cases hlt : k < t.size
            · have hd := refDigit_any t[k]
              have hz1 : 0 ≤ z := by rw [HZ.out]; omega
              have hz2 : z ≤ 1099511627776 := by rw [HZ.out]; have := satN_le (valB 8 0 ((ls t).take k)); omega
              obtain ⟨d, hde⟩ : ∃ d : Int, d = (digV t[k] : Nat) := ⟨_, rfl⟩
              have hd0 : 0 ≤ d := by omega
              rw [← hde] at hd
              by_cases hdb : d < 8
              · have hge : ¬ (8 : Int) ≤ d := by omega
                have hdd : decide ((8 : Int) ≤ d) = false := decide_eq_false hge
                obtain ⟨z2, hz3⟩ : ∃ z2, min (z * 8 + d) 1099511627776 = z2 := ⟨_, rfl⟩
                have hmin : ∀ (W : World) ts ty, (Builtin.min_ ts ty #[.int .i64 (z * 8 + d), .int .i64 1099511627776]).run Tryz.prog W = .ok (.int .i64 z2) W := fun W ts ty => min_two W ts ty _ _ _ hz3
                have HZ2 : Hid (z2 = (satN (valB 8 0 ((ls t).take (k + 1))) : Nat)) := by
                  show _ = _
                  have e := satN_step (valB 8 0 ((ls t).take k)) 8 (digV t[k]) (by decide)
                  rw [valB_take_succ 8 t k hlt, ← e, ← hz3, HZ.out, hde]
                  unfold satN
                  omega
                have HA2 : Hid (((ls t).take (k + 1)).all (fun c => decide (digV c < 8)) = true) := by
                  refine Lib.hid (take_all_succ _ t k hlt HALL.out ?_)
                  exact decide_eq_true (by omega)
                clear hz3 hde
                go_wp2_with (go_at_call 48; refine (hd _).mono ?_; rintro e w' ⟨rfl, rfl⟩)
                go_round
                case rel => exact ⟨k + 1, z2, by omega, by go_num, rfl, HZ2, HA2⟩
                case measure => simp [intOf]; omega
              · have hge : (8 : Int) ≤ d := by omega
                have hdd : decide ((8 : Int) ≤ d) = true := decide_eq_true hge
                have HN := Lib.hid (num_no HNE.out HB.out (all_take_no t k hlt (decide_eq_false (by omega))))
                clear hde
                go_wp2_with (go_at_call 48; refine (hd _).mono ?_; rintro e w' ⟨rfl, rfl⟩)
                go_ret2
                exact ⟨by rw [HN.out.1, HN.out.2]; rfl, by first | exact below_drewN (Below.refl _ _) _ | exact below_drewN _ _⟩
            · obtain rfl : k = t.size := by omega
              have HN : Hid (nV (ls s) = z ∧ nK (ls s) = true) := by
                have hz := HZ.out
                have ha := HALL.out
                rw [take_ls_all] at hz ha
                have := num_yes HNE.out HB.out ha
                rw [hz]
                exact Lib.hid this
              go_wp2
              go_ret2
              exact ⟨by rw [HN.out.1, HN.out.2]; rfl, by first | exact below_drewN (Below.refl _ _) _ | exact below_drewN _ _⟩
      · have hq0 : ((s[0].toNat : Int) == 48) = false := by
          rw [beq_eq_false_iff_ne]
          exact fun e => hz (UInt8.toNat_inj.1 (by rw [show (48 : UInt8).toNat = 48 from rfl]; omega))
        have HB : Hid (baseL (ls s) = (10, ls s)) := by
          refine Lib.hid (baseL_ten _ (.inl ?_))
          rw [HTWO.out]
          simpa using hz
        clear hz
        have HTS := Lib.hid hs
        go_enter Tryz.func40, Tryz.ntmps40
        go_wp2
        have HWW := Below.refl w.heap.size w
        have hts : s.size ≤ 1000000000 := HTS.out
        go_loop [5, 6] (fun n i => ∃ (k : Nat) (z : Int), k ≤ s.size ∧ i = .int .i64 k ∧ n = .int .i64 z ∧ Hid (z = (satN (valB 10 0 ((ls s).take k)) : Nat)) ∧ Hid (((ls s).take k).all (fun c => decide (digV c < 10)) = true)) (fun _ i => s.size - (intOf i).toNat)
        case atStart => exact ⟨0, 0, Nat.zero_le _, rfl, rfl, Lib.hid rfl, Lib.hid rfl⟩
        case round =>
          obtain ⟨k, z, hk, rfl, rfl, HZ, HALL⟩ := hrel
          by_cases hlt : k < s.size
          · have hd := refDigit_any s[k]
            have hz1 : 0 ≤ z := by rw [HZ.out]; omega
            have hz2 : z ≤ 1099511627776 := by rw [HZ.out]; have := satN_le (valB 10 0 ((ls s).take k)); omega
            obtain ⟨d, hde⟩ : ∃ d : Int, d = (digV s[k] : Nat) := ⟨_, rfl⟩
            have hd0 : 0 ≤ d := by omega
            rw [← hde] at hd
            by_cases hdb : d < 10
            · have hge : ¬ (10 : Int) ≤ d := by omega
              have hdd : decide ((10 : Int) ≤ d) = false := decide_eq_false hge
              obtain ⟨z2, hz3⟩ : ∃ z2, min (z * 10 + d) 1099511627776 = z2 := ⟨_, rfl⟩
              have hmin : ∀ (W : World) ts ty, (Builtin.min_ ts ty #[.int .i64 (z * 10 + d), .int .i64 1099511627776]).run Tryz.prog W = .ok (.int .i64 z2) W := fun W ts ty => min_two W ts ty _ _ _ hz3
              have HZ2 : Hid (z2 = (satN (valB 10 0 ((ls s).take (k + 1))) : Nat)) := by
                show _ = _
                have e := satN_step (valB 10 0 ((ls s).take k)) 10 (digV s[k]) (by decide)
                rw [valB_take_succ 10 s k hlt, ← e, ← hz3, HZ.out, hde]
                unfold satN
                omega
              have HA2 : Hid (((ls s).take (k + 1)).all (fun c => decide (digV c < 10)) = true) := by
                refine Lib.hid (take_all_succ _ s k hlt HALL.out ?_)
                exact decide_eq_true (by omega)
              clear hz3 hde
              go_wp2_with (go_at_call 48; refine (hd _).mono ?_; rintro e w' ⟨rfl, rfl⟩)
              go_round
              case rel => exact ⟨k + 1, z2, by omega, by go_num, rfl, HZ2, HA2⟩
              case measure => simp [intOf]; omega
            · have hge : (10 : Int) ≤ d := by omega
              have hdd : decide ((10 : Int) ≤ d) = true := decide_eq_true hge
              have HN := Lib.hid (num_no HNE.out HB.out (all_take_no s k hlt (decide_eq_false (by omega))))
              clear hde
              go_wp2_with (go_at_call 48; refine (hd _).mono ?_; rintro e w' ⟨rfl, rfl⟩)
              go_ret2
              exact ⟨by rw [HN.out.1, HN.out.2]; rfl, HWW⟩
          · obtain rfl : k = s.size := by omega
            have HN : Hid (nV (ls s) = z ∧ nK (ls s) = true) := by
              have hz := HZ.out
              have ha := HALL.out
              rw [take_ls_all] at hz ha
              have := num_yes HNE.out HB.out ha
              rw [hz]
              exact Lib.hid this
            go_wp2
            go_ret2
            exact ⟨by rw [HN.out.1, HN.out.2]; rfl, HWW⟩
    · have h2d : decide ((2 : Int) ≤ (s.size : Int)) = false := decide_eq_false (by omega)
      have HB : Hid (baseL (ls s) = (10, ls s)) := Lib.hid (baseL_ten _ (.inr (by rw [ls_length]; omega)))
      have HTS := Lib.hid hs
      go_enter Tryz.func40, Tryz.ntmps40
      go_wp2
      have HWW := Below.refl w.heap.size w
      have hts : s.size ≤ 1000000000 := HTS.out
      go_loop [5, 6] (fun n i => ∃ (k : Nat) (z : Int), k ≤ s.size ∧ i = .int .i64 k ∧ n = .int .i64 z ∧ Hid (z = (satN (valB 10 0 ((ls s).take k)) : Nat)) ∧ Hid (((ls s).take k).all (fun c => decide (digV c < 10)) = true)) (fun _ i => s.size - (intOf i).toNat)
      case atStart => exact ⟨0, 0, Nat.zero_le _, rfl, rfl, Lib.hid rfl, Lib.hid rfl⟩
      case round =>
        obtain ⟨k, z, hk, rfl, rfl, HZ, HALL⟩ := hrel
        by_cases hlt : k < s.size
        · have hd := refDigit_any s[k]
          have hz1 : 0 ≤ z := by rw [HZ.out]; omega
          have hz2 : z ≤ 1099511627776 := by rw [HZ.out]; have := satN_le (valB 10 0 ((ls s).take k)); omega
          obtain ⟨d, hde⟩ : ∃ d : Int, d = (digV s[k] : Nat) := ⟨_, rfl⟩
          have hd0 : 0 ≤ d := by omega
          rw [← hde] at hd
          by_cases hdb : d < 10
          · have hge : ¬ (10 : Int) ≤ d := by omega
            have hdd : decide ((10 : Int) ≤ d) = false := decide_eq_false hge
            obtain ⟨z2, hz3⟩ : ∃ z2, min (z * 10 + d) 1099511627776 = z2 := ⟨_, rfl⟩
            have hmin : ∀ (W : World) ts ty, (Builtin.min_ ts ty #[.int .i64 (z * 10 + d), .int .i64 1099511627776]).run Tryz.prog W = .ok (.int .i64 z2) W := fun W ts ty => min_two W ts ty _ _ _ hz3
            have HZ2 : Hid (z2 = (satN (valB 10 0 ((ls s).take (k + 1))) : Nat)) := by
              show _ = _
              have e := satN_step (valB 10 0 ((ls s).take k)) 10 (digV s[k]) (by decide)
              rw [valB_take_succ 10 s k hlt, ← e, ← hz3, HZ.out, hde]
              unfold satN
              omega
            have HA2 : Hid (((ls s).take (k + 1)).all (fun c => decide (digV c < 10)) = true) := by
              refine Lib.hid (take_all_succ _ s k hlt HALL.out ?_)
              exact decide_eq_true (by omega)
            clear hz3 hde
            go_wp2_with (go_at_call 48; refine (hd _).mono ?_; rintro e w' ⟨rfl, rfl⟩)
            go_round
            case rel => exact ⟨k + 1, z2, by omega, by go_num, rfl, HZ2, HA2⟩
            case measure => simp [intOf]; omega
          · have hge : (10 : Int) ≤ d := by omega
            have hdd : decide ((10 : Int) ≤ d) = true := decide_eq_true hge
            have HN := Lib.hid (num_no HNE.out HB.out (all_take_no s k hlt (decide_eq_false (by omega))))
            clear hde
            go_wp2_with (go_at_call 48; refine (hd _).mono ?_; rintro e w' ⟨rfl, rfl⟩)
            go_ret2
            exact ⟨by rw [HN.out.1, HN.out.2]; rfl, HWW⟩
        · obtain rfl : k = s.size := by omega
          have HN : Hid (nV (ls s) = z ∧ nK (ls s) = true) := by
            have hz := HZ.out
            have ha := HALL.out
            rw [take_ls_all] at hz ha
            have := num_yes HNE.out HB.out ha
            rw [hz]
            exact Lib.hid this
          go_wp2
          go_ret2
          exact ⟨by rw [HN.out.1, HN.out.2]; rfl, HWW⟩
end

section
open Go.RowKit

theorem partsL_pos (l : List UInt8) : 0 < (partsL l).length := by
  unfold partsL
  have := splitL_pos 46 l
  split
  · rename_i h; simp; omega
  · exact this
theorem partsL_length (l : List UInt8) : (partsL l).length ≤ l.length + 1 := by
  unfold partsL
  have := splitL_length 46 l
  split
  · simp; omega
  · exact this
theorem splitG_sizes (c : UInt8) : ∀ l cur, ∀ x ∈ splitG c l cur, x.length ≤ l.length + cur.length
  | [], cur, x, hx => by simp [splitG] at hx; subst hx; simp
  | b :: r, cur, x, hx => by
    unfold splitG at hx
    split at hx
    · rcases List.mem_cons.1 hx with h | h
      · subst h; simp
      · have := splitG_sizes c r [] x h; simp at this ⊢; omega
    · have := splitG_sizes c r (cur ++ [b]) x hx; simp at this ⊢; omega
theorem partsL_sizes (l : List UInt8) (x : List UInt8) (hx : x ∈ partsL l) : x.length ≤ l.length := by
  have key : ∀ y ∈ splitL 46 l, y.length ≤ l.length := fun y hy => by have := splitG_sizes 46 l [] y hy; simpa using this
  unfold partsL at hx
  split at hx
  · exact key x (List.dropLast_subset _ hx)
  · exact key x hx
theorem getD_mem {α : Type _} (l : List α) (k : Nat) (d : α) (h : k < l.length) : l.getD k d ∈ l := by
  rw [List.getD_eq_getElem?_getD, List.getElem?_eq_getElem h, Option.getD_some]
  exact List.getElem_mem h

set_option maxHeartbeats 1000000 in
theorem refNumeric_any (s : ByteArray) (w : World) (hs : s.size ≤ 1000000000) :
    Calls Tryz.prog 29 #[.string s] w fun e w' => e = .returned (.bool (numericL (ls s))) ∧ Below w.heap.size w w' := by
  have hpar := refParts_any s w hs
  have hpos := partsL_pos (ls s)
  have hlen := partsL_length (ls s)
  have hsz := partsL_sizes (ls s) _ (getD_mem (partsL (ls s)) ((partsL (ls s)).length - 1) [] (by omega))
  have HN : Hid (numericL (ls s) = lastNum ((partsL (ls s)).getD ((partsL (ls s)).length - 1) [])) := by
    show _ = _
    rw [getD_last _ _ hpos]; rfl
  rw [ls_length] at hlen hsz
  generalize partsL (ls s) = P at *
  obtain ⟨m, hm⟩ : ∃ n, n = P.length := ⟨_, rfl⟩
  obtain ⟨k, hk⟩ : ∃ k, k = m - 1 := ⟨_, rfl⟩
  have hm1 : (m : Int) - 1 = ((k : Nat) : Int) := by omega
  have hkm : k < m := by omega
  have hkb : k ≤ 1000000001 := by omega
  unfold StrsPost at hpar
  rw [← hm] at hpar
  rw [← hm, ← hk] at hsz HN
  obtain ⟨x, hx⟩ : ∃ x, x = P.getD k [] := ⟨_, rfl⟩
  rw [← hx] at hsz HN
  have c1 := refDigits_any (bs x)
  have c2 := refNumber_any (bs x)
  rw [ls_bs] at c2
  rw [bs_size] at c1 c2
  have HD : Hid (digitsB (bs x) = (x.all digitU && !x.isEmpty)) := by show _ = _; unfold digitsB; rw [ls_bs]
  have hcellX : ∀ w1 A, Has w1 w1.heap.size A m (wv P) → ∃ b off, A = some ⟨b, off, none⟩ ∧ w1.cell? ⟨b, off + k, none⟩ = some (.string (bs x)) := fun w1 A h => by
    rw [hx]; exact str_cell h k hkm
  obtain ⟨X, hX⟩ : ∃ X, X = bs x := ⟨_, rfl⟩
  have HXL : Hid (X.size = x.length) := by show _ = _; rw [hX, bs_size]
  have HXG : Hid (∀ h : 1 < X.size, X[1] = x.getD 1 0) := by
    refine Lib.hid fun h => ?_
    have hl : 1 < x.length := by rw [← HXL.out]; exact h
    have e := ls_getE X 1 h
    have e2 : ls X = x := by rw [hX, ls_bs]
    rw [List.getD_eq_getElem?_getD, List.getElem?_eq_getElem hl, Option.getD_some]
    have e3 : (ls X)[1]'(by rw [ls_length]; exact h) = x[1] := by simp only [e2]
    rw [← e3]; exact (e _).symm
  rw [← hX] at c1 c2 hcellX HD
  clear hm hk hx hX hlen hpos
  go_enter Tryz.func29, Tryz.ntmps29
  go_wp2_with fail
  refine hpar.mono ?_
  rintro e w1 ⟨A, c, rfl, hmc, hh, hb⟩
  obtain ⟨b, off, rfl, hcell⟩ := hcellX w1 A hh
  clear hpar hcellX hh
  cases hdg : digitsB X with
  | true =>
    rw [hdg] at c1
    have HY : Hid (numericL (ls s) = true) := by
      show _ = _
      rw [HN.out]
      unfold lastNum
      rw [← HD.out, hdg]
      rfl
    clear hdg
    go_wp2_with (go_at_call 39; refine (c1 _ (by omega)).mono ?_; rintro e w' ⟨rfl, rfl⟩)
    go_ret
    exact ⟨ret_bool HY.out.symm, hb⟩
  | false =>
    rw [hdg] at c1
    have HY : Hid (numericL (ls s) = (nK x && decide (2 ≤ x.length) && (x.getD 1 0 == 120 || x.getD 1 0 == 88))) := by
      show _ = _
      rw [HN.out]
      unfold lastNum
      rw [← HD.out, hdg]
      rfl
    clear hdg
    generalize nK x = kk at *
    cases kk with
    | false =>
      go_wp2_with (first | (go_at_call 39; refine (c1 _ (by omega)).mono ?_; rintro e w' ⟨rfl, rfl⟩) | (go_at_call 40; refine (c2 _ (by omega)).mono ?_; rintro e w2 ⟨rfl, hb2⟩))
      go_ret
      exact ⟨ret_bool (by rw [HY.out]; rfl), hb.trans (hb2.mono hb.size)⟩
    | true =>
      by_cases h2 : 2 ≤ X.size
      · have h2d : decide ((2 : Int) ≤ (X.size : Int)) = true := decide_eq_true (by omega)
        have hl1 : 1 < X.size := by omega
        have hXd : decide (2 ≤ x.length) = true := decide_eq_true (by rw [← HXL.out]; exact h2)
        have HG := Lib.hid (HXG.out hl1)
        have h3 : ((X[1].toNat : Int) == 120) = (x.getD 1 0 == 120) := by
          rw [← HG.out]
          apply Bool.eq_iff_iff.2
          simp only [beq_iff_eq]
          exact ⟨fun e => UInt8.toNat_inj.1 (by rw [show (120 : UInt8).toNat = 120 from rfl]; omega), fun e => by rw [e]; rfl⟩
        have h4 : ((X[1].toNat : Int) == 88) = (x.getD 1 0 == 88) := by
          rw [← HG.out]
          apply Bool.eq_iff_iff.2
          simp only [beq_iff_eq]
          exact ⟨fun e => UInt8.toNat_inj.1 (by rw [show (88 : UInt8).toNat = 88 from rfl]; omega), fun e => by rw [e]; rfl⟩
        have HY2 : Hid (numericL (ls s) = ((x.getD 1 0 == 120) || (x.getD 1 0 == 88))) := by show _ = _; rw [HY.out, hXd]; simp
        generalize (x.getD 1 0 == 120) = q1 at *
        generalize (x.getD 1 0 == 88) = q2 at *
        clear hXd HY
        cases q1 <;> cases q2 <;>
        · go_wp2_with (first | (go_at_call 39; refine (c1 _ (by omega)).mono ?_; rintro e w' ⟨rfl, rfl⟩) | (go_at_call 40; refine (c2 _ (by omega)).mono ?_; rintro e w2 ⟨rfl, hb2⟩))
          go_ret
          exact ⟨ret_bool (by rw [HY2.out]; rfl), hb.trans (hb2.mono hb.size)⟩
      · have h2d : decide ((2 : Int) ≤ (X.size : Int)) = false := decide_eq_false (by omega)
        have hXd : decide (2 ≤ x.length) = false := decide_eq_false (by rw [← HXL.out]; exact h2)
        have HY2 : Hid (numericL (ls s) = false) := by show _ = _; rw [HY.out, hXd]; simp
        clear hXd HY
        go_wp2_with (first | (go_at_call 39; refine (c1 _ (by omega)).mono ?_; rintro e w' ⟨rfl, rfl⟩) | (go_at_call 40; refine (c2 _ (by omega)).mono ?_; rintro e w2 ⟨rfl, hb2⟩))
        go_ret
        exact ⟨ret_bool (by rw [HY2.out]), hb.trans (hb2.mono hb.size)⟩
end

end Go.Proofs.YthoolifdmemceaaGreatDoor
