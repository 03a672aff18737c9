/-
Contracts of number and decimal of the reference of layer 10 (written by tools/gen-Ip2.py).
Contract of Format of the reference of layer 10.
Contract of Numeric of the reference of layer 10.
Punycode in plain words: where the encoder stands between its rounds. No program.
-/
import Derived.Test.YtekaljeicfjkjaaGreatDoorB26
import Derived.Test.YtekaljeicfjkjaaGreatDoorB07
import Derived.Test.YtekaljeicfjkjaaGreatDoorB02
import Derived.Lib.AppendStr
import Derived.Test.YtekaljeicfjkjaaGreatDoorB08
import Derived.Test.YtekaljeicfjkjaaGreatDoorB01
namespace Go.Proofs.YtekaljeicfjkjaaGreatDoor
section
open Go.RowKit
def zpd (x : Nat) : Nat := min x 1099511627776
theorem zpe (x B d : Nat) (hB : 0 < B) : zpd (zpd x * B + d) = zpd (x * B + d) := by
 unfold zpd
 rcases Nat.lt_or_ge x 1099511627776 with h | h
 ·rw [Nat.min_eq_left (Nat.le_of_lt h)]
 ·rw [Nat.min_eq_right h]
  have h1 : 1099511627776 * 1 ≤ 1099511627776 * B := Nat.mul_le_mul_left _ hB
  have h2 : 1099511627776 * B ≤ x * B := Nat.mul_le_mul_right _ h
  omega
theorem zpf (x : Nat) : zpd x ≤ 1099511627776 := by unfold zpd; omega
theorem zpg (x b : Nat) (hb : b ≤ 1099511627776) : zpd x < b ↔ x < b := by unfold zpd; omega
theorem zph (x : Nat) (h : x ≤ 1099511627776) : zpd x = x := by unfold zpd; omega
def nV (l : List UInt8) : Int := (zpd ((zqg l).getD 0) : Nat)
def nK (l : List UInt8) : Bool := (zqg l).isSome
theorem zpi {l r : List UInt8} {B : Nat} (hl : l ≠ []) (hb : zqf l = (B, r)) (ha : r.all (fun c => decide (zqc c < B)) = true) : nV l = (zpd (zqd B 0 r) : Nat) ∧ nK l = true := by
 unfold nV nK zqg
 rw [if_neg hl, hb, if_pos ha]
 exact ⟨rfl, rfl⟩
theorem zpj {l r : List UInt8} {B : Nat} (hl : l ≠ []) (hb : zqf l = (B, r)) (ha : ¬ r.all (fun c => decide (zqc c < B)) = true) : nV l = 0 ∧ nK l = false := by
 unfold nV nK zqg
 rw [if_neg hl, hb, if_neg ha]
 exact ⟨rfl, rfl⟩
theorem zpk (B : Nat) (t : ByteArray) (k : Nat) (h : k < t.size) : zqd B 0 ((ls t).take (k + 1)) = zqd B 0 ((ls t).take k) * B + zqc t[k] := by
 rw [zca t k h, zqe]; rfl
theorem zpl {p : UInt8 → Bool} (t : ByteArray) (k : Nat) (h : k < t.size) (hp : p t[k] = false) : ¬ (ls t).all p = true := by
 rw [List.all_eq_true]
 intro hall
 have hm : t[k] ∈ ls t := by
  have hk : k < (ls t).length := by rw [zb4]; exact h
  have := List.getElem_mem hk
  rwa [zb8 t k h] at this
 rw [hall _ hm] at hp
 cases hp
theorem zpm {s : ByteArray} (h : 0 < s.size) : ls s ≠ [] := by
 intro e
 have := zb4 s
 rw [e] at this
 simp at this
 omega
theorem zpn (s : ByteArray) (h : 2 ≤ s.size) : ls s = s[0] :: s[1] :: (ls s).drop 2 := by
 have e := zz5 s 0 (by omega)
 rw [List.drop_zero] at e
 rw [e, zz5 s 1 (by omega)]
 simp
theorem zpo (s : ByteArray) (k : Nat) : ls (s.extract k s.size) = (ls s).drop k := by
 rw [zbw, zb0]
 unfold sub
 exact List.take_of_length_le (by rw [List.length_drop, zb4]; omega)
set_option maxHeartbeats 4000000 in
theorem zpp (s : ByteArray) (w : World) (hs : s.size ≤ 1000000000) :
 Calls Tryz.prog 121 #[.string s] w fun e w' => e = .returned (.tuple #[.int .i64 (nV (ls s)), .bool (nK (ls s))]) ∧ Below w.heap.size w w' := by
 by_cases h0 : s.size = 0
 ·have hbe : (s.toList == ([] : List UInt8)) = true := by rw [zb3]; have := zb4 s; cases hx : ls s with
   | nil => rfl
   | cons c r => rw [hx] at this; simp at this; omega
  have HN : Hid (nV (ls s) = 0 ∧ nK (ls s) = false) := by
   have : ls s = [] := List.eq_nil_of_length_eq_zero (by rw [zb4]; exact h0)
   rw [this]
   exact Lib.hid ⟨rfl, rfl⟩
  clear h0
  go_enter Tryz.func121, Tryz.ntmps121
  go_wp2
  go_ret2
  exact ⟨by rw [HN.out.1, HN.out.2]; rfl, Below.refl _ _⟩
 ·have hne := zpm (s := s) (by omega)
  have hbe : (s.toList == ([] : List UInt8)) = false := by rw [zb3]; cases hx : ls s with
   | nil => exact absurd hx hne
   | cons c r => rfl
  have HNE := Lib.hid hne
  clear hne
  by_cases h2 : 2 ≤ s.size
  ·have h2i : (2 : Int) ≤ (s.size : Int) := by omega
   have h2d : decide ((2 : Int) ≤ (s.size : Int)) = true := decide_eq_true h2i
   have hl0 : 0 < s.size := by omega
   have hl1 : 1 < s.size := by omega
   have HTWO := Lib.hid (zpn s h2)
   by_cases hz : s[0] = 48
   ·have hq0 : ((s[0].toNat : Int) == 48) = true := by rw [hz]; rfl
    have HZ0 := Lib.hid hz
    clear hz
    by_cases hx : s[1] = 120 ∨ s[1] = 88
    ·have HB0 : Hid (zqf (ls s) = (16, (ls s).drop 2)) := by
      show _ = _
      rw [HTWO.out, HZ0.out]
      exact zqt _ _ hx
     rcases hx with hx | hx
     ·have hq1 : ((s[1].toNat : Int) == 120) = true := by rw [hx]; rfl
      clear hx
      go_enter Tryz.func121, Tryz.ntmps121
      go_wp2
      go_quiet (fail)
      have HTS : Hid ((s.extract 2 s.size).size ≤ 1000000000) := by show _ ≤ _; rw [ByteArray.size_extract]; omega
      have HE := Lib.hid (zpo s 2)
      have HB : Hid (zqf (ls s) = (16, ls (s.extract 2 s.size))) := by show _ = _; rw [HB0.out, HE.out]
      generalize s.extract 2 s.size = t at *
      go_wp2
      have hts : t.size ≤ 1000000000 := HTS.out
      go_loop [5, 6] (fun n i => ∃ (k : Nat) (z : Int), k ≤ t.size ∧ i = .int .i64 k ∧ n = .int .i64 z ∧ Hid (z = (zpd (zqd 16 0 ((ls t).take k)) : Nat)) ∧ Hid (((ls t).take k).all (fun c => decide (zqc c < 16)) = true)) (fun _ i => t.size - (intOf i).toNat)
      case atStart => exact ⟨0, 0, Nat.zero_le _, rfl, rfl, Lib.hid rfl, Lib.hid rfl⟩
      case round =>
       obtain ⟨k, z, hk, rfl, rfl, HZ, HALL⟩ := hrel
       by_cases hlt : k < t.size
       ·have hd := zpb t[k]
        have hz1 : 0 ≤ z := by rw [HZ.out]; omega
        have hz2 : z ≤ 1099511627776 := by rw [HZ.out]; have := zpf (zqd 16 0 ((ls t).take k)); omega
        obtain ⟨d, hde⟩ : ∃ d : Int, d = (zqc t[k] : Nat) := ⟨_, rfl⟩
        have hd0 : 0 ≤ d := by omega
        rw [← hde] at hd
        by_cases hdb : d < 16
        ·have hge : ¬ (16 : Int) ≤ d := by omega
         have hdd : decide ((16 : Int) ≤ d) = false := decide_eq_false hge
         obtain ⟨z2, hz3⟩ : ∃ z2, min (z * 16 + d) 1099511627776 = z2 := ⟨_, rfl⟩
         have hmin : ∀ (W : World) ts ty, (Builtin.min_ ts ty #[.int .i64 (z * 16 + d), .int .i64 1099511627776]).run Tryz.prog W = .ok (.int .i64 z2) W := fun W ts ty => zu1 W ts ty _ _ _ hz3
         have HZ2 : Hid (z2 = (zpd (zqd 16 0 ((ls t).take (k + 1))) : Nat)) := by
          show _ = _
          have e := zpe (zqd 16 0 ((ls t).take k)) 16 (zqc t[k]) (by decide)
          rw [zpk 16 t k hlt, ← e, ← hz3, HZ.out, hde]
          unfold zpd
          omega
         have HA2 : Hid (((ls t).take (k + 1)).all (fun c => decide (zqc c < 16)) = true) := by
          refine Lib.hid (zbt _ t k hlt HALL.out ?_)
          exact decide_eq_true (by omega)
         clear hz3 hde
         go_wp2_with (go_at_call 156; refine (hd _).mono ?_; rintro e w' ⟨rfl, rfl⟩)
         go_round
         case rel => exact ⟨k + 1, z2, by omega, by go_num, rfl, HZ2, HA2⟩
         case measure => simp [intOf]; omega
        ·have hge : (16 : Int) ≤ d := by omega
         have hdd : decide ((16 : Int) ≤ d) = true := decide_eq_true hge
         have HN := Lib.hid (zpj HNE.out HB.out (zpl t k hlt (decide_eq_false (by omega))))
         clear hde
         go_wp2_with (go_at_call 156; refine (hd _).mono ?_; rintro e w' ⟨rfl, rfl⟩)
         go_ret2
         exact ⟨by rw [HN.out.1, HN.out.2]; rfl, by first | exact below_drewN (Below.refl _ _) _ | exact below_drewN _ _⟩
       ·obtain rfl : k = t.size := by omega
        have HN : Hid (nV (ls s) = z ∧ nK (ls s) = true) := by
         have hz := HZ.out
         have ha := HALL.out
         rw [zcb] at hz ha
         have := zpi HNE.out HB.out ha
         rw [hz]
         exact Lib.hid this
        go_wp2
        go_ret2
        exact ⟨by rw [HN.out.1, HN.out.2]; rfl, by first | exact below_drewN (Below.refl _ _) _ | exact below_drewN _ _⟩
     ·have hq1 : ((s[1].toNat : Int) == 120) = false := by rw [hx]; rfl
      have hq2 : ((s[1].toNat : Int) == 88) = true := by rw [hx]; rfl
      clear hx
      go_enter Tryz.func121, Tryz.ntmps121
      go_wp2
      go_quiet (fail)
      have HTS : Hid ((s.extract 2 s.size).size ≤ 1000000000) := by show _ ≤ _; rw [ByteArray.size_extract]; omega
      have HE := Lib.hid (zpo s 2)
      have HB : Hid (zqf (ls s) = (16, ls (s.extract 2 s.size))) := by show _ = _; rw [HB0.out, HE.out]
      generalize s.extract 2 s.size = t at *
      go_wp2
      have hts : t.size ≤ 1000000000 := HTS.out
      go_loop [5, 6] (fun n i => ∃ (k : Nat) (z : Int), k ≤ t.size ∧ i = .int .i64 k ∧ n = .int .i64 z ∧ Hid (z = (zpd (zqd 16 0 ((ls t).take k)) : Nat)) ∧ Hid (((ls t).take k).all (fun c => decide (zqc c < 16)) = true)) (fun _ i => t.size - (intOf i).toNat)
      case atStart => exact ⟨0, 0, Nat.zero_le _, rfl, rfl, Lib.hid rfl, Lib.hid rfl⟩
      case round =>
       obtain ⟨k, z, hk, rfl, rfl, HZ, HALL⟩ := hrel
       by_cases hlt : k < t.size
       ·have hd := zpb t[k]
        have hz1 : 0 ≤ z := by rw [HZ.out]; omega
        have hz2 : z ≤ 1099511627776 := by rw [HZ.out]; have := zpf (zqd 16 0 ((ls t).take k)); omega
        obtain ⟨d, hde⟩ : ∃ d : Int, d = (zqc t[k] : Nat) := ⟨_, rfl⟩
        have hd0 : 0 ≤ d := by omega
        rw [← hde] at hd
        by_cases hdb : d < 16
        ·have hge : ¬ (16 : Int) ≤ d := by omega
         have hdd : decide ((16 : Int) ≤ d) = false := decide_eq_false hge
         obtain ⟨z2, hz3⟩ : ∃ z2, min (z * 16 + d) 1099511627776 = z2 := ⟨_, rfl⟩
         have hmin : ∀ (W : World) ts ty, (Builtin.min_ ts ty #[.int .i64 (z * 16 + d), .int .i64 1099511627776]).run Tryz.prog W = .ok (.int .i64 z2) W := fun W ts ty => zu1 W ts ty _ _ _ hz3
         have HZ2 : Hid (z2 = (zpd (zqd 16 0 ((ls t).take (k + 1))) : Nat)) := by
          show _ = _
          have e := zpe (zqd 16 0 ((ls t).take k)) 16 (zqc t[k]) (by decide)
          rw [zpk 16 t k hlt, ← e, ← hz3, HZ.out, hde]
          unfold zpd
          omega
         have HA2 : Hid (((ls t).take (k + 1)).all (fun c => decide (zqc c < 16)) = true) := by
          refine Lib.hid (zbt _ t k hlt HALL.out ?_)
          exact decide_eq_true (by omega)
         clear hz3 hde
         go_wp2_with (go_at_call 156; refine (hd _).mono ?_; rintro e w' ⟨rfl, rfl⟩)
         go_round
         case rel => exact ⟨k + 1, z2, by omega, by go_num, rfl, HZ2, HA2⟩
         case measure => simp [intOf]; omega
        ·have hge : (16 : Int) ≤ d := by omega
         have hdd : decide ((16 : Int) ≤ d) = true := decide_eq_true hge
         have HN := Lib.hid (zpj HNE.out HB.out (zpl t k hlt (decide_eq_false (by omega))))
         clear hde
         go_wp2_with (go_at_call 156; refine (hd _).mono ?_; rintro e w' ⟨rfl, rfl⟩)
         go_ret2
         exact ⟨by rw [HN.out.1, HN.out.2]; rfl, by first | exact below_drewN (Below.refl _ _) _ | exact below_drewN _ _⟩
       ·obtain rfl : k = t.size := by omega
        have HN : Hid (nV (ls s) = z ∧ nK (ls s) = true) := by
         have hz := HZ.out
         have ha := HALL.out
         rw [zcb] at hz ha
         have := zpi HNE.out HB.out ha
         rw [hz]
         exact Lib.hid this
        go_wp2
        go_ret2
        exact ⟨by rw [HN.out.1, HN.out.2]; rfl, by first | exact below_drewN (Below.refl _ _) _ | exact below_drewN _ _⟩
    ·have HB0 : Hid (zqf (ls s) = (8, (ls s).drop 1)) := by
      show _ = _
      rw [HTWO.out, HZ0.out]
      exact zqu _ _ hx
     have hq1 : ((s[1].toNat : Int) == 120) = false := by
      rw [beq_eq_false_iff_ne]
      exact fun e => hx (.inl (UInt8.toNat_inj.1 (by rw [show (120 : UInt8).toNat = 120 from rfl]; omega)))
     have hq2 : ((s[1].toNat : Int) == 88) = false := by
      rw [beq_eq_false_iff_ne]
      exact fun e => hx (.inr (UInt8.toNat_inj.1 (by rw [show (88 : UInt8).toNat = 88 from rfl]; omega)))
     clear hx
     go_enter Tryz.func121, Tryz.ntmps121
     go_wp2
     go_quiet (fail)
     have HTS : Hid ((s.extract 1 s.size).size ≤ 1000000000) := by show _ ≤ _; rw [ByteArray.size_extract]; omega
     have HE := Lib.hid (zpo s 1)
     have HB : Hid (zqf (ls s) = (8, ls (s.extract 1 s.size))) := by show _ = _; rw [HB0.out, HE.out]
     generalize s.extract 1 s.size = t at *
     go_wp2
     have hts : t.size ≤ 1000000000 := HTS.out
     go_loop [5, 6] (fun n i => ∃ (k : Nat) (z : Int), k ≤ t.size ∧ i = .int .i64 k ∧ n = .int .i64 z ∧ Hid (z = (zpd (zqd 8 0 ((ls t).take k)) : Nat)) ∧ Hid (((ls t).take k).all (fun c => decide (zqc c < 8)) = true)) (fun _ i => t.size - (intOf i).toNat)
     case atStart => exact ⟨0, 0, Nat.zero_le _, rfl, rfl, Lib.hid rfl, Lib.hid rfl⟩
     case round =>
      obtain ⟨k, z, hk, rfl, rfl, HZ, HALL⟩ := hrel
      by_cases hlt : k < t.size
      ·have hd := zpb t[k]
       have hz1 : 0 ≤ z := by rw [HZ.out]; omega
       have hz2 : z ≤ 1099511627776 := by rw [HZ.out]; have := zpf (zqd 8 0 ((ls t).take k)); omega
       obtain ⟨d, hde⟩ : ∃ d : Int, d = (zqc t[k] : Nat) := ⟨_, rfl⟩
       have hd0 : 0 ≤ d := by omega
       rw [← hde] at hd
       by_cases hdb : d < 8
       ·have hge : ¬ (8 : Int) ≤ d := by omega
        have hdd : decide ((8 : Int) ≤ d) = false := decide_eq_false hge
        obtain ⟨z2, hz3⟩ : ∃ z2, min (z * 8 + d) 1099511627776 = z2 := ⟨_, rfl⟩
        have hmin : ∀ (W : World) ts ty, (Builtin.min_ ts ty #[.int .i64 (z * 8 + d), .int .i64 1099511627776]).run Tryz.prog W = .ok (.int .i64 z2) W := fun W ts ty => zu1 W ts ty _ _ _ hz3
        have HZ2 : Hid (z2 = (zpd (zqd 8 0 ((ls t).take (k + 1))) : Nat)) := by
         show _ = _
         have e := zpe (zqd 8 0 ((ls t).take k)) 8 (zqc t[k]) (by decide)
         rw [zpk 8 t k hlt, ← e, ← hz3, HZ.out, hde]
         unfold zpd
         omega
        have HA2 : Hid (((ls t).take (k + 1)).all (fun c => decide (zqc c < 8)) = true) := by
         refine Lib.hid (zbt _ t k hlt HALL.out ?_)
         exact decide_eq_true (by omega)
        clear hz3 hde
        go_wp2_with (go_at_call 156; refine (hd _).mono ?_; rintro e w' ⟨rfl, rfl⟩)
        go_round
        case rel => exact ⟨k + 1, z2, by omega, by go_num, rfl, HZ2, HA2⟩
        case measure => simp [intOf]; omega
       ·have hge : (8 : Int) ≤ d := by omega
        have hdd : decide ((8 : Int) ≤ d) = true := decide_eq_true hge
        have HN := Lib.hid (zpj HNE.out HB.out (zpl t k hlt (decide_eq_false (by omega))))
        clear hde
        go_wp2_with (go_at_call 156; refine (hd _).mono ?_; rintro e w' ⟨rfl, rfl⟩)
        go_ret2
        exact ⟨by rw [HN.out.1, HN.out.2]; rfl, by first | exact below_drewN (Below.refl _ _) _ | exact below_drewN _ _⟩
      ·obtain rfl : k = t.size := by omega
       have HN : Hid (nV (ls s) = z ∧ nK (ls s) = true) := by
        have hz := HZ.out
        have ha := HALL.out
        rw [zcb] at hz ha
        have := zpi HNE.out HB.out ha
        rw [hz]
        exact Lib.hid this
       go_wp2
       go_ret2
       exact ⟨by rw [HN.out.1, HN.out.2]; rfl, by first | exact below_drewN (Below.refl _ _) _ | exact below_drewN _ _⟩
   ·have hq0 : ((s[0].toNat : Int) == 48) = false := by
     rw [beq_eq_false_iff_ne]
     exact fun e => hz (UInt8.toNat_inj.1 (by rw [show (48 : UInt8).toNat = 48 from rfl]; omega))
    have HB : Hid (zqf (ls s) = (10, ls s)) := by
     refine Lib.hid (zqs _ (.inl ?_))
     rw [HTWO.out]
     simpa using hz
    clear hz
    have HTS := Lib.hid hs
    go_enter Tryz.func121, Tryz.ntmps121
    go_wp2
    have HWW := Below.refl w.heap.size w
    have hts : s.size ≤ 1000000000 := HTS.out
    go_loop [5, 6] (fun n i => ∃ (k : Nat) (z : Int), k ≤ s.size ∧ i = .int .i64 k ∧ n = .int .i64 z ∧ Hid (z = (zpd (zqd 10 0 ((ls s).take k)) : Nat)) ∧ Hid (((ls s).take k).all (fun c => decide (zqc c < 10)) = true)) (fun _ i => s.size - (intOf i).toNat)
    case atStart => exact ⟨0, 0, Nat.zero_le _, rfl, rfl, Lib.hid rfl, Lib.hid rfl⟩
    case round =>
     obtain ⟨k, z, hk, rfl, rfl, HZ, HALL⟩ := hrel
     by_cases hlt : k < s.size
     ·have hd := zpb s[k]
      have hz1 : 0 ≤ z := by rw [HZ.out]; omega
      have hz2 : z ≤ 1099511627776 := by rw [HZ.out]; have := zpf (zqd 10 0 ((ls s).take k)); omega
      obtain ⟨d, hde⟩ : ∃ d : Int, d = (zqc s[k] : Nat) := ⟨_, rfl⟩
      have hd0 : 0 ≤ d := by omega
      rw [← hde] at hd
      by_cases hdb : d < 10
      ·have hge : ¬ (10 : Int) ≤ d := by omega
       have hdd : decide ((10 : Int) ≤ d) = false := decide_eq_false hge
       obtain ⟨z2, hz3⟩ : ∃ z2, min (z * 10 + d) 1099511627776 = z2 := ⟨_, rfl⟩
       have hmin : ∀ (W : World) ts ty, (Builtin.min_ ts ty #[.int .i64 (z * 10 + d), .int .i64 1099511627776]).run Tryz.prog W = .ok (.int .i64 z2) W := fun W ts ty => zu1 W ts ty _ _ _ hz3
       have HZ2 : Hid (z2 = (zpd (zqd 10 0 ((ls s).take (k + 1))) : Nat)) := by
        show _ = _
        have e := zpe (zqd 10 0 ((ls s).take k)) 10 (zqc s[k]) (by decide)
        rw [zpk 10 s k hlt, ← e, ← hz3, HZ.out, hde]
        unfold zpd
        omega
       have HA2 : Hid (((ls s).take (k + 1)).all (fun c => decide (zqc c < 10)) = true) := by
        refine Lib.hid (zbt _ s k hlt HALL.out ?_)
        exact decide_eq_true (by omega)
       clear hz3 hde
       go_wp2_with (go_at_call 156; refine (hd _).mono ?_; rintro e w' ⟨rfl, rfl⟩)
       go_round
       case rel => exact ⟨k + 1, z2, by omega, by go_num, rfl, HZ2, HA2⟩
       case measure => simp [intOf]; omega
      ·have hge : (10 : Int) ≤ d := by omega
       have hdd : decide ((10 : Int) ≤ d) = true := decide_eq_true hge
       have HN := Lib.hid (zpj HNE.out HB.out (zpl s k hlt (decide_eq_false (by omega))))
       clear hde
       go_wp2_with (go_at_call 156; refine (hd _).mono ?_; rintro e w' ⟨rfl, rfl⟩)
       go_ret2
       exact ⟨by rw [HN.out.1, HN.out.2]; rfl, HWW⟩
     ·obtain rfl : k = s.size := by omega
      have HN : Hid (nV (ls s) = z ∧ nK (ls s) = true) := by
       have hz := HZ.out
       have ha := HALL.out
       rw [zcb] at hz ha
       have := zpi HNE.out HB.out ha
       rw [hz]
       exact Lib.hid this
      go_wp2
      go_ret2
      exact ⟨by rw [HN.out.1, HN.out.2]; rfl, HWW⟩
  ·have h2d : decide ((2 : Int) ≤ (s.size : Int)) = false := decide_eq_false (by omega)
   have HB : Hid (zqf (ls s) = (10, ls s)) := Lib.hid (zqs _ (.inr (by rw [zb4]; omega)))
   have HTS := Lib.hid hs
   go_enter Tryz.func121, Tryz.ntmps121
   go_wp2
   have HWW := Below.refl w.heap.size w
   have hts : s.size ≤ 1000000000 := HTS.out
   go_loop [5, 6] (fun n i => ∃ (k : Nat) (z : Int), k ≤ s.size ∧ i = .int .i64 k ∧ n = .int .i64 z ∧ Hid (z = (zpd (zqd 10 0 ((ls s).take k)) : Nat)) ∧ Hid (((ls s).take k).all (fun c => decide (zqc c < 10)) = true)) (fun _ i => s.size - (intOf i).toNat)
   case atStart => exact ⟨0, 0, Nat.zero_le _, rfl, rfl, Lib.hid rfl, Lib.hid rfl⟩
   case round =>
    obtain ⟨k, z, hk, rfl, rfl, HZ, HALL⟩ := hrel
    by_cases hlt : k < s.size
    ·have hd := zpb s[k]
     have hz1 : 0 ≤ z := by rw [HZ.out]; omega
     have hz2 : z ≤ 1099511627776 := by rw [HZ.out]; have := zpf (zqd 10 0 ((ls s).take k)); omega
     obtain ⟨d, hde⟩ : ∃ d : Int, d = (zqc s[k] : Nat) := ⟨_, rfl⟩
     have hd0 : 0 ≤ d := by omega
     rw [← hde] at hd
     by_cases hdb : d < 10
     ·have hge : ¬ (10 : Int) ≤ d := by omega
      have hdd : decide ((10 : Int) ≤ d) = false := decide_eq_false hge
      obtain ⟨z2, hz3⟩ : ∃ z2, min (z * 10 + d) 1099511627776 = z2 := ⟨_, rfl⟩
      have hmin : ∀ (W : World) ts ty, (Builtin.min_ ts ty #[.int .i64 (z * 10 + d), .int .i64 1099511627776]).run Tryz.prog W = .ok (.int .i64 z2) W := fun W ts ty => zu1 W ts ty _ _ _ hz3
      have HZ2 : Hid (z2 = (zpd (zqd 10 0 ((ls s).take (k + 1))) : Nat)) := by
       show _ = _
       have e := zpe (zqd 10 0 ((ls s).take k)) 10 (zqc s[k]) (by decide)
       rw [zpk 10 s k hlt, ← e, ← hz3, HZ.out, hde]
       unfold zpd
       omega
      have HA2 : Hid (((ls s).take (k + 1)).all (fun c => decide (zqc c < 10)) = true) := by
       refine Lib.hid (zbt _ s k hlt HALL.out ?_)
       exact decide_eq_true (by omega)
      clear hz3 hde
      go_wp2_with (go_at_call 156; refine (hd _).mono ?_; rintro e w' ⟨rfl, rfl⟩)
      go_round
      case rel => exact ⟨k + 1, z2, by omega, by go_num, rfl, HZ2, HA2⟩
      case measure => simp [intOf]; omega
     ·have hge : (10 : Int) ≤ d := by omega
      have hdd : decide ((10 : Int) ≤ d) = true := decide_eq_true hge
      have HN := Lib.hid (zpj HNE.out HB.out (zpl s k hlt (decide_eq_false (by omega))))
      clear hde
      go_wp2_with (go_at_call 156; refine (hd _).mono ?_; rintro e w' ⟨rfl, rfl⟩)
      go_ret2
      exact ⟨by rw [HN.out.1, HN.out.2]; rfl, HWW⟩
    ·obtain rfl : k = s.size := by omega
     have HN : Hid (nV (ls s) = z ∧ nK (ls s) = true) := by
      have hz := HZ.out
      have ha := HALL.out
      rw [zcb] at hz ha
      have := zpi HNE.out HB.out ha
      rw [hz]
      exact Lib.hid this
     go_wp2
     go_ret2
     exact ⟨by rw [HN.out.1, HN.out.2]; rfl, HWW⟩
end

section
open Go.RowKit
theorem zp9 (v : Nat) : bs (zqn v) = bs (Lib.decDigits (v / 16777216)) ++ ⟨#[46]⟩ ++ bs (Lib.decDigits (v / 65536 % 256)) ++ ⟨#[46]⟩ ++ bs (Lib.decDigits (v / 256 % 256)) ++ ⟨#[46]⟩ ++ bs (Lib.decDigits (v % 256)) := by
 apply zb2
 have e : ls (⟨#[46]⟩ : ByteArray) = [46] := rfl
 simp only [zb6, zb0, e, zqn, z1n]
 simp
set_option maxRecDepth 20000 in
set_option maxHeartbeats 1000000 in
theorem zqa (v : Int) (h0 : 0 ≤ v) (h1 : v < 4294967296) (w : World) :
 Calls Tryz.prog 70 #[.int .u32 v] w fun e w' => e = .returned (.string (bs (zqn v.toNat))) ∧ Below w.heap.size w w' := by
 have HF : Hid (bs (zqn v.toNat) = bs (Lib.decDigits (v / 16777216).toNat) ++ ⟨#[46]⟩ ++ bs (Lib.decDigits (v / 65536 % 256).toNat) ++ ⟨#[46]⟩ ++ bs (Lib.decDigits (v / 256 % 256).toNat) ++ ⟨#[46]⟩ ++ bs (Lib.decDigits (v % 256).toNat)) := by
  show _ = _
  rw [zp9, show v.toNat / 16777216 = (v / 16777216).toNat by omega, show v.toNat / 65536 % 256 = (v / 65536 % 256).toNat by omega, show v.toNat / 256 % 256 = (v / 256 % 256).toNat by omega, show v.toNat % 256 = (v % 256).toNat by omega]
 obtain ⟨a, ha⟩ : ∃ x, v / 16777216 = x := ⟨_, rfl⟩
 obtain ⟨b1, hb1⟩ : ∃ x, v / 65536 = x := ⟨_, rfl⟩
 obtain ⟨c1, hc1⟩ : ∃ x, v / 256 = x := ⟨_, rfl⟩
 obtain ⟨b, hb⟩ : ∃ x, b1 % 256 = x := ⟨_, rfl⟩
 obtain ⟨c, hc⟩ : ∃ x, c1 % 256 = x := ⟨_, rfl⟩
 obtain ⟨d, hd⟩ : ∃ x, v % 256 = x := ⟨_, rfl⟩
 rw [ha, hb1, hc1, hb, hc, hd] at HF
 have ka := zz0 a (by omega) (by omega)
 have kb := zz0 b (by omega) (by omega)
 have kc := zz0 c (by omega) (by omega)
 have kd := zz0 d (by omega) (by omega)
 have sa := zzv a.toNat (by omega)
 have sb := zzv b.toNat (by omega)
 have sc := zzv c.toNat (by omega)
 have sd := zzv d.toNat (by omega)
 generalize bs (Lib.decDigits a.toNat) = DA at *
 generalize bs (Lib.decDigits b.toNat) = DB at *
 generalize bs (Lib.decDigits c.toNat) = DC at *
 generalize bs (Lib.decDigits d.toNat) = DD at *
 have hb10 : 0 ≤ b1 := by omega
 have hc10 : 0 ≤ c1 := by omega
 go_enter Tryz.func70, Tryz.ntmps70
 go_wp2_with fail
 refine (ka _).mono ?_
 rintro e w1 ⟨rfl, hw1⟩
 go_wp2_with fail
 refine (kb _).mono ?_
 rintro e w2 ⟨rfl, hw2⟩
 replace hw2 := hw1.trans (hw2.mono hw1.size)
 go_wp2_with fail
 refine (kc _).mono ?_
 rintro e w3 ⟨rfl, hw3⟩
 replace hw3 := hw2.trans (hw3.mono hw2.size)
 go_wp2_with fail
 refine (kd _).mono ?_
 rintro e w4 ⟨rfl, hw4⟩
 replace hw4 := hw3.trans (hw4.mono hw3.size)
 go_wp2
 go_ret
 exact ⟨zbz HF.out.symm, hw4⟩
end

section
open Go.RowKit
theorem zpx (l : List UInt8) : 0 < (zqb l).length := by
 unfold zqb
 have := z1g 46 l
 split
 ·rename_i h; simp; omega
 ·exact this
theorem zpy (l : List UInt8) : (zqb l).length ≤ l.length + 1 := by
 unfold zqb
 have := z1i 46 l
 split
 ·simp; omega
 ·exact this
theorem zpz (c : UInt8) : ∀ l cur, ∀ x ∈ z1d c l cur, x.length ≤ l.length + cur.length
 | [], cur, x, hx => by simp [z1d] at hx; subst hx; simp
 | b :: r, cur, x, hx => by
   unfold z1d at hx
   split at hx
   ·rcases List.mem_cons.1 hx with h | h
    ·subst h; simp
    ·have := zpz c r [] x h; simp at this ⊢; omega
   ·have := zpz c r (cur ++ [b]) x hx; simp at this ⊢; omega
theorem zp0 (l : List UInt8) (x : List UInt8) (hx : x ∈ zqb l) : x.length ≤ l.length := by
 have key : ∀ y ∈ z1e 46 l, y.length ≤ l.length := fun y hy => by have := zpz 46 l [] y hy; simpa using this
 unfold zqb at hx
 split at hx
 ·exact key x (List.dropLast_subset _ hx)
 ·exact key x hx
theorem zp1 {α : Type _} (l : List α) (k : Nat) (d : α) (h : k < l.length) : l.getD k d ∈ l := by
 rw [List.getD_eq_getElem?_getD, List.getElem?_eq_getElem h, Option.getD_some]
 exact List.getElem_mem h
set_option maxHeartbeats 1000000 in
theorem zp2 (s : ByteArray) (w : World) (hs : s.size ≤ 1000000000) :
 Calls Tryz.prog 90 #[.string s] w fun e w' => e = .returned (.bool (zqi (ls s))) ∧ Below w.heap.size w w' := by
 have hpar := zpc s w hs
 have hpos := zpx (ls s)
 have hlen := zpy (ls s)
 have hsz := zp0 (ls s) _ (zp1 (zqb (ls s)) ((zqb (ls s)).length - 1) [] (by omega))
 have HN : Hid (zqi (ls s) = zqh ((zqb (ls s)).getD ((zqb (ls s)).length - 1) [])) := by
  show _ = _
  rw [z1y _ _ hpos]; rfl
 rw [zb4] at hlen hsz
 generalize zqb (ls s) = P at *
 obtain ⟨m, hm⟩ : ∃ n, n = P.length := ⟨_, rfl⟩
 obtain ⟨k, hk⟩ : ∃ k, k = m - 1 := ⟨_, rfl⟩
 have hm1 : (m : Int) - 1 = ((k : Nat) : Int) := by omega
 have hkm : k < m := by omega
 have hkb : k ≤ 1000000001 := by omega
 unfold z1w at hpar
 rw [← hm] at hpar
 rw [← hm, ← hk] at hsz HN
 obtain ⟨x, hx⟩ : ∃ x, x = P.getD k [] := ⟨_, rfl⟩
 rw [← hx] at hsz HN
 have c1 := zzt (bs x)
 have c2 := zpp (bs x)
 rw [zb0] at c2
 rw [zb5] at c1 c2
 have HD : Hid (zbq (bs x) = (x.all zbe && !x.isEmpty)) := by show _ = _; unfold zbq; rw [zb0]
 have hcellX : ∀ w1 A, Has w1 w1.heap.size A m (wv P) → ∃ b off, A = some ⟨b, off, none⟩ ∧ w1.cell? ⟨b, off + k, none⟩ = some (.string (bs x)) := fun w1 A h => by
  rw [hx]; exact z1x h k hkm
 obtain ⟨X, hX⟩ : ∃ X, X = bs x := ⟨_, rfl⟩
 have HXL : Hid (X.size = x.length) := by show _ = _; rw [hX, zb5]
 have HXG : Hid (∀ h : 1 < X.size, X[1] = x.getD 1 0) := by
  refine Lib.hid fun h => ?_
  have hl : 1 < x.length := by rw [← HXL.out]; exact h
  have e := zb8 X 1 h
  have e2 : ls X = x := by rw [hX, zb0]
  rw [List.getD_eq_getElem?_getD, List.getElem?_eq_getElem hl, Option.getD_some]
  have e3 : (ls X)[1]'(by rw [zb4]; exact h) = x[1] := by simp only [e2]
  rw [← e3]; exact (e _).symm
 rw [← hX] at c1 c2 hcellX HD
 clear hm hk hx hX hlen hpos
 go_enter Tryz.func90, Tryz.ntmps90
 go_wp2_with fail
 refine hpar.mono ?_
 rintro e w1 ⟨A, c, rfl, hmc, hh, hb⟩
 obtain ⟨b, off, rfl, hcell⟩ := hcellX w1 A hh
 clear hpar hcellX hh
 cases hdg : zbq X with
 | true =>
   rw [hdg] at c1
   have HY : Hid (zqi (ls s) = true) := by
    show _ = _
    rw [HN.out]
    unfold zqh
    rw [← HD.out, hdg]
    rfl
   clear hdg
   go_wp2_with (go_at_call 120; refine (c1 _ (by omega)).mono ?_; rintro e w' ⟨rfl, rfl⟩)
   go_ret
   exact ⟨zbx HY.out.symm, hb⟩
 | false =>
   rw [hdg] at c1
   have HY : Hid (zqi (ls s) = (nK x && decide (2 ≤ x.length) && (x.getD 1 0 == 120 || x.getD 1 0 == 88))) := by
    show _ = _
    rw [HN.out]
    unfold zqh
    rw [← HD.out, hdg]
    rfl
   clear hdg
   generalize nK x = kk at *
   cases kk with
   | false =>
     go_wp2_with (first | (go_at_call 120; refine (c1 _ (by omega)).mono ?_; rintro e w' ⟨rfl, rfl⟩) | (go_at_call 121; refine (c2 _ (by omega)).mono ?_; rintro e w2 ⟨rfl, hb2⟩))
     go_ret
     exact ⟨zbx (by rw [HY.out]; rfl), hb.trans (hb2.mono hb.size)⟩
   | true =>
     by_cases h2 : 2 ≤ X.size
     ·have h2d : decide ((2 : Int) ≤ (X.size : Int)) = true := decide_eq_true (by omega)
      have hl1 : 1 < X.size := by omega
      have hXd : decide (2 ≤ x.length) = true := decide_eq_true (by rw [← HXL.out]; exact h2)
      have HG := Lib.hid (HXG.out hl1)
      have h3 : ((X[1].toNat : Int) == 120) = (x.getD 1 0 == 120) := by
       rw [← HG.out]
       apply Bool.eq_iff_iff.2
       simp only [beq_iff_eq]
       exact ⟨fun e => UInt8.toNat_inj.1 (by rw [show (120 : UInt8).toNat = 120 from rfl]; omega), fun e => by rw [e]; rfl⟩
      have h4 : ((X[1].toNat : Int) == 88) = (x.getD 1 0 == 88) := by
       rw [← HG.out]
       apply Bool.eq_iff_iff.2
       simp only [beq_iff_eq]
       exact ⟨fun e => UInt8.toNat_inj.1 (by rw [show (88 : UInt8).toNat = 88 from rfl]; omega), fun e => by rw [e]; rfl⟩
      have HY2 : Hid (zqi (ls s) = ((x.getD 1 0 == 120) || (x.getD 1 0 == 88))) := by show _ = _; rw [HY.out, hXd]; simp
      generalize (x.getD 1 0 == 120) = q1 at *
      generalize (x.getD 1 0 == 88) = q2 at *
      clear hXd HY
      cases q1 <;> cases q2 <;>
      ·go_wp2_with (first | (go_at_call 120; refine (c1 _ (by omega)).mono ?_; rintro e w' ⟨rfl, rfl⟩) | (go_at_call 121; refine (c2 _ (by omega)).mono ?_; rintro e w2 ⟨rfl, hb2⟩))
       go_ret
       exact ⟨zbx (by rw [HY2.out]; rfl), hb.trans (hb2.mono hb.size)⟩
     ·have h2d : decide ((2 : Int) ≤ (X.size : Int)) = false := decide_eq_false (by omega)
      have hXd : decide (2 ≤ x.length) = false := decide_eq_false (by rw [← HXL.out]; exact h2)
      have HY2 : Hid (zqi (ls s) = false) := by show _ = _; rw [HY.out, hXd]; simp
      clear hXd HY
      go_wp2_with (first | (go_at_call 120; refine (c1 _ (by omega)).mono ?_; rintro e w' ⟨rfl, rfl⟩) | (go_at_call 121; refine (c2 _ (by omega)).mono ?_; rintro e w2 ⟨rfl, hb2⟩))
      go_ret
      exact ⟨zbx (by rw [HY2.out]), hb.trans (hb2.mono hb.size)⟩
end

section
open Go.RowKit
def stP (P D : List Nat) : PSt := (PSt.start (zw6 P)).run D
theorem zxh (P D : List Nat) : (stP P D).out.length = (zw6 P).length + D.length := PSt.run_len D (PSt.start (zw6 P))
theorem zxi (P D : List Nat) (e : Nat) : stP P (D ++ [e]) = (stP P D).step e := by
 unfold stP
 rw [PSt.run_append]
 rfl
structure EncAt (P D : List Nat) (n e : Nat) : Prop where
 syn : Syn [] P n e (stP P D)
 rest : ∃ f, P.length < f + (stP P D).out.length ∧ D ++ zw5 f P n e (stP P D).out.length = zw7 P
structure RndAt (P D A B : List Nat) (m e : Nat) : Prop where
 all : A ++ B = P
 mem : ptN m = true
 syn : Syn A B m e (stP P D)
 rest : ∃ f, P.length < f + (stP P D).out.length + (inD m B e).1.length ∧ D ++ ((inD m B e).1 ++ zw5 f P (m + 1) ((inD m B e).2 + 1) ((stP P D).out.length + (inD m B e).1.length)) = zw7 P
theorem EncAt.first (P : List Nat) : EncAt P [] 128 0 := by
 refine ⟨⟨rfl, ?_, Nat.le_refl _⟩, P.length + 1, by omega, rfl⟩
 simp [stP, PSt.run, PSt.start]
theorem EncAt.round {P D : List Nat} {n e : Nat} (hP : ∀ p ∈ P, ptN p = true) (h : EncAt P D n e) (hd : (stP P D).out.length < P.length) :
 n ≤ zw4 n P ∧ zw4 n P ≤ 1114111 ∧ zw4 n P ∈ P ∧ RndAt P D [] P (zw4 n P) (e + (zw4 n P - n) * ((stP P D).out.length + 1)) := by
 have ho : (stP P D).out = P.filter (fun x => decide (x < n)) := by have := h.syn.out; rwa [List.filter_nil, List.nil_append] at this
 obtain ⟨hm, hnm, hfl⟩ := zxd hP (by rw [← ho]; exact hd)
 obtain ⟨f, hf, hr⟩ := h.rest
 refine ⟨hnm, zxr (hP _ hm), hm, ?_⟩
 cases f with
 | zero => omega
 | succ f =>
   rw [zw5, if_pos hd] at hr
   generalize zw4 n P = m at *
   refine ⟨rfl, hP m hm, ?_, ?_⟩
   ·refine ⟨by rw [hfl, ← ho]; rfl, ?_, by have := h.syn.le; omega⟩
    have := h.syn.cnt
    have hle := h.syn.le
    rw [show m - (stP P D).n = (m - n) + (n - (stP P D).n) by omega, Nat.add_mul]
    simp at this ⊢
    omega
   ·refine ⟨f, ?_, hr⟩
    have i1 := zw8 m P (e + (m - n) * ((stP P D).out.length + 1))
    have : 0 < (P.filter (fun x => decide (x = m))).length := by
     rw [← List.countP_eq_length_filter, List.countP_pos_iff]
     exact ⟨m, hm, by simp⟩
    omega
theorem RndAt.skip {P D A B : List Nat} {p m e : Nat} (h : RndAt P D A (p :: B) m e) (hp : p < m) : RndAt P D (A ++ [p]) B m (e + 1) := by
 obtain ⟨f, hf, hr⟩ := h.rest
 have hx : inD m (p :: B) e = inD m B (e + 1) := by rw [inD, if_pos hp]
 rw [hx] at hf hr
 exact ⟨by rw [← h.all]; simp, h.mem, h.syn.less hp, f, hf, hr⟩
theorem RndAt.pass {P D A B : List Nat} {p m e : Nat} (h : RndAt P D A (p :: B) m e) (h1 : ¬ p < m) (h2 : p ≠ m) : RndAt P D (A ++ [p]) B m e := by
 obtain ⟨f, hf, hr⟩ := h.rest
 have hx : inD m (p :: B) e = inD m B e := by rw [inD, if_neg h1, if_neg h2]
 rw [hx] at hf hr
 exact ⟨by rw [← h.all]; simp, h.mem, h.syn.more h1 h2, f, hf, hr⟩
theorem RndAt.emit {P D A B : List Nat} {m e : Nat} (h : RndAt P D A (m :: B) m e) : RndAt P (D ++ [e]) (A ++ [m]) B m 0 := by
 obtain ⟨f, hf, hr⟩ := h.rest
 have hx : inD m (m :: B) e = (e :: (inD m B 0).1, (inD m B 0).2) := by rw [inD, if_neg (by omega), if_pos rfl]
 rw [hx] at hf hr
 refine ⟨by rw [← h.all]; simp, h.mem, ?_, f, ?_, ?_⟩
 ·rw [zxi]; exact h.syn.emit.2.2
 ·rw [zxi, PSt.step_len]
  simp only [List.length_cons] at hf
  omega
 ·rw [zxi, PSt.step_len]
  simp only [List.length_cons, List.cons_append] at hr
  rw [List.append_assoc, List.cons_append, List.nil_append, show (stP P D).out.length + 1 + (inD m B 0).1.length = (stP P D).out.length + ((inD m B 0).1.length + 1) by omega]
  exact hr
theorem RndAt.done {P D A : List Nat} {m e : Nat} (h : RndAt P D A [] m e) : EncAt P D (m + 1) (e + 1) := by
 obtain ⟨f, hf, hr⟩ := h.rest
 have hA : A = P := by rw [← h.all, List.append_nil]
 subst hA
 have ho : (stP A D).out = A.filter (fun x => decide (x ≤ m)) := by have := h.syn.out; rwa [List.filter_nil, List.append_nil] at this
 refine ⟨⟨by rw [zxc, ho]; rfl, ?_, by have := h.syn.le; omega⟩, f, ?_, ?_⟩
 ·have := h.syn.cnt
  rw [← ho] at this
  have hle := h.syn.le
  rw [show m + 1 - (stP A D).n = (m - (stP A D).n) + 1 by omega, Nat.add_mul]
  simp
  omega
 ·simpa [inD] using hf
 ·simpa [inD] using hr
theorem EncAt.fin {P D : List Nat} {n e : Nat} (h : EncAt P D n e) (hd : ¬ (stP P D).out.length < P.length) : zw7 P = D := by
 obtain ⟨f, _, hr⟩ := h.rest
 cases f with
 | zero => rw [← hr, zw5, List.append_nil]
 | succ f => rw [← hr, zw5, if_neg hd, List.append_nil]
theorem Syn.small {A B : List Nat} {n e : Nat} {s : PSt} (h : Syn A B n e s) (hn : n ≤ 1114112) (hl : (A ++ B).length ≤ 256) : e ≤ 17179869184 := by
 have a1 := List.length_filter_le (fun x => decide (x ≤ n)) A
 have a2 := List.length_filter_le (fun x => decide (x < n)) B
 have ho : s.out.length ≤ 256 := by
  rw [h.out, List.length_append]
  rw [List.length_append] at hl
  omega
 rw [List.length_append] at hl
 have hm : (n - s.n) * (s.out.length + 1) ≤ 1114112 * 257 := Nat.mul_le_mul (by omega) (by omega)
 have := h.cnt
 omega
theorem EncAt.small {P D : List Nat} {n e : Nat} (h : EncAt P D n e) (hn : n ≤ 1114112) (hl : P.length ≤ 256) : e ≤ 17179869184 := h.syn.small hn (by simpa using hl)
theorem RndAt.small {P D A B : List Nat} {m e : Nat} (h : RndAt P D A B m e) (hl : P.length ≤ 256) : e ≤ 17179869184 := h.syn.small (by have := zxr h.mem; omega) (by rw [h.all]; exact hl)
def zxj (P D : List Nat) : List UInt8 := (zw6 P).map UInt8.ofNat ++ ((if zw6 P = [] then [] else [45]) ++ zx9 D 72 (zw6 P).length true)
def zxk (P D : List Nat) : Nat := zya D 72 (zw6 P).length true
theorem zxl (P D : List Nat) (e : Nat) : zxj P (D ++ [e]) = zxj P D ++ (zxv e 0 (zxk P D)).map zx2 := by
 unfold zxj zxk
 rw [zyb]
 simp only [List.append_assoc]
theorem zxm (P D : List Nat) (e : Nat) : zxk P (D ++ [e]) = adp e ((stP P D).out.length + 1) D.isEmpty := by
 unfold zxk
 rw [zyc, zxh, Bool.true_and]
theorem zxn {P D R : List Nat} (hP : ∀ p ∈ P, ptN p = true) (hl : P.length ≤ 256) (h : D ++ R = zw7 P) : (zxj P D).length ≤ 3400 := by
 have hs := zwu _ _ (zxg hP hl).2
 have h1 := zye 11 D 72 (zw6 P).length true (fun d hd => hs d (by rw [← h]; simp [hd]))
 have h2 := zwq hP hl
 rw [← h, List.length_append] at h2
 unfold zxj
 rw [List.length_append, List.length_append, List.length_map]
 split
 ·simp; omega
 ·simp; omega
theorem EncAt.len {P D : List Nat} {n e : Nat} (h : EncAt P D n e) (hP : ∀ p ∈ P, ptN p = true) (hl : P.length ≤ 256) : (zxj P D).length ≤ 3400 := by
 obtain ⟨f, _, hr⟩ := h.rest
 exact zxn hP hl hr
theorem RndAt.len {P D A B : List Nat} {m e : Nat} (h : RndAt P D A B m e) (hP : ∀ p ∈ P, ptN p = true) (hl : P.length ≤ 256) : (zxj P D).length ≤ 3400 := by
 obtain ⟨f, _, hr⟩ := h.rest
 exact zxn hP hl hr
theorem zxo : ∀ (D : List Nat) (bias done : Nat) (first : Bool), bias ≤ 1000 → (∀ d ∈ D, d < 10 ^ 11) → zya D bias done first ≤ 1000
 | [], bias, _, _, h, _ => h
 | d :: r, bias, done, first, _, h => by
   rw [zya]
   have e : (10 : Nat) ^ 11 = 100000000000 := by decide
   exact zxo r _ _ _ (zwz d (done + 1) first (by have := h d (by simp); omega)) (fun x hx => h x (by simp [hx]))
theorem zxp {P D R : List Nat} (hP : ∀ p ∈ P, ptN p = true) (hl : P.length ≤ 256) (h : D ++ R = zw7 P) : zxk P D ≤ 1000 := by
 have hs := zwu _ _ (zxg hP hl).2
 exact zxo D 72 _ true (by omega) (fun d hd => hs d (by rw [← h]; simp [hd]))
theorem RndAt.bias {P D A B : List Nat} {m e : Nat} (h : RndAt P D A B m e) (hP : ∀ p ∈ P, ptN p = true) (hl : P.length ≤ 256) : zxk P D ≤ 1000 := by
 obtain ⟨f, _, hr⟩ := h.rest
 exact zxp hP hl hr
theorem RndAt.outlen {P D A B : List Nat} {m e : Nat} (h : RndAt P D A B m e) : (stP P D).out.length ≤ P.length := by
 have a1 := List.length_filter_le (fun x => decide (x ≤ m)) A
 have a2 := List.length_filter_le (fun x => decide (x < m)) B
 rw [h.syn.out, List.length_append, ← h.all, List.length_append]
 omega
theorem zxq (n : Nat) : ∀ P : List Nat, zw4 n P ≤ 1073741824
 | [] => Nat.le_refl _
 | p :: P => by
   rw [zw4]
   have := zxq n P
   split
   ·exact Nat.le_trans (Nat.min_le_right _ _) this
   ·exact this
end

end Go.Proofs.YtekaljeicfjkjaaGreatDoor
