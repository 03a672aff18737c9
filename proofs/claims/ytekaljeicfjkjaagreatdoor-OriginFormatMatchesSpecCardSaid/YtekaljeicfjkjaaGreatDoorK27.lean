/-
Contracts of digit, number, parts and decimal of the reference of layer 10.
Contracts of number and decimal of the reference of layer 10 (written by tools/gen-Ip2.py).
Contract of Format of the reference of layer 10.
Contract of Numeric of the reference of layer 10.
-/
import Derived.Test.YtekaljeicfjkjaaGreatDoorK26
import Derived.Test.YtekaljeicfjkjaaGreatDoorK07
import Derived.Test.YtekaljeicfjkjaaGreatDoorK19
import Derived.Test.YtekaljeicfjkjaaGreatDoorK02
import Derived.BigQuiet
import Derived.Lib.AppendStr
import Derived.Test.YtekaljeicfjkjaaGreatDoorK08
namespace Go.Proofs.YtekaljeicfjkjaaGreatDoor
section
open Go.RowKit
set_option maxHeartbeats 16000000
theorem zpd (c : UInt8) (w : World) :
 Calls Tryz.prog 156 #[.int .u8 (c.toNat : Int)] w fun e w' => e = .returned (.int .i64 (zqe c : Nat)) /\ w = w' := by
 have hl := zce c
 obtain ⟨y, hy⟩ : ∃ y : Int, y = (c.toNat : Int) := ⟨_, rfl⟩
 have hy0 : 0 <= y := by omega
 rw [<- hy] at hl ⊢
 have HY := jL hy
 clear hy
 by_cases h1 : (48 : Int) <= y /\ y <= 57
 ·obtain ⟨h1, h2⟩ := h1
  have HV : Hid (y - 48 = (zqe c : Nat)) := by show _ = _; have := HY.out; unfold zqe; rw [if_pos (by omega)]; omega
  go_enter Tryz.func156, Tryz.ntmps156
  go_wp2
  go_ret
  exact ⟨zby HV.out, rfl⟩
 ·by_cases h2 : (97 : Int) <= y /\ y <= 102
  ·obtain ⟨h2, h3⟩ := h2
   have h4 : ¬ y <= 57 := by omega
   have h5 : (48 : Int) <= y := by omega
   have HV : Hid (y - 97 + 10 = (zqe c : Nat)) := by show _ = _; have := HY.out; unfold zqe; rw [if_neg (by omega), if_pos (by omega)]; omega
   clear h1
   go_enter Tryz.func156, Tryz.ntmps156
   go_wp2
   go_ret
   exact ⟨zby HV.out, rfl⟩
  ·by_cases h3 : (65 : Int) <= y /\ y <= 70
   ·obtain ⟨h3, h4⟩ := h3
    have h5 : ¬ y <= 57 := by omega
    have h6 : (48 : Int) <= y := by omega
    have h7 : ¬ (97 : Int) <= y := by omega
    have HV : Hid (y - 65 + 10 = (zqe c : Nat)) := by show _ = _; have := HY.out; unfold zqe; rw [if_neg (by omega), if_neg (by omega), if_pos (by omega)]; omega
    clear h1 h2
    go_enter Tryz.func156, Tryz.ntmps156
    go_wp2
    go_ret
    exact ⟨zby HV.out, rfl⟩
   ·have HV : Hid ((99 : Int) = (zqe c : Nat)) := by show _ = _; have := HY.out; unfold zqe; rw [if_neg (by omega), if_neg (by omega), if_neg (by omega)]; rfl
    by_cases g1 : (48 : Int) <= y
    ·have g2 : ¬ y <= 57 := fun h => h1 ⟨g1, h⟩
     by_cases g3 : (65 : Int) <= y
     ·have g4 : ¬ y <= 70 := fun h => h3 ⟨g3, h⟩
      by_cases g5 : (97 : Int) <= y
      ·have g6 : ¬ y <= 102 := fun h => h2 ⟨g5, h⟩
       clear h1 h2 h3
       go_enter Tryz.func156, Tryz.ntmps156
       go_wp2
       go_ret
       exact ⟨zby HV.out, rfl⟩
      ·clear h1 h2 h3
       go_enter Tryz.func156, Tryz.ntmps156
       go_wp2
       go_ret
       exact ⟨zby HV.out, rfl⟩
     ·have g5 : ¬ (97 : Int) <= y := by omega
      clear h1 h2 h3
      go_enter Tryz.func156, Tryz.ntmps156
      go_wp2
      go_ret
      exact ⟨zby HV.out, rfl⟩
    ·have g3 : ¬ (65 : Int) <= y := by omega
     have g5 : ¬ (97 : Int) <= y := by omega
     clear h1 h2 h3
     go_enter Tryz.func156, Tryz.ntmps156
     go_wp2
     go_ret
     exact ⟨zby HV.out, rfl⟩
theorem zpe (s : ByteArray) (w : World) (hs : s.size <= 1000000000) :
 Calls Tryz.prog 119 #[.string s] w (z3t (zqd (ls s)) w) := by
 have hspl := z16 s 46 w hs
 have hpos := z3d 46 (ls s)
 have hlen := z3f 46 (ls s)
 rw [zb4] at hlen
 have HP : Hid (zqd (ls s) = if 1 < (z3b 46 (ls s)).length /\ (z3b 46 (ls s)).getLast? = some [] then (z3b 46 (ls s)).dropLast else z3b 46 (ls s)) := jL rfl
 have HLAST := jL (z3w hpos)
 generalize z3b 46 (ls s) = P at *
 obtain ⟨n, hn⟩ : ∃ n, n = P.length := ⟨_, rfl⟩
 go_enter Tryz.func119, Tryz.ntmps119
 go_wp2_with fail
 refine hspl.mono ?_
 rintro e w1 ⟨v, m, rfl, hown, hb⟩
 obtain ⟨A, c, rfl, hh, hmc⟩ := Has.of_own hown
 obtain rfl : m = n := by have := hh.1; rw [z4a] at this; omega
 clear hspl hown
 obtain ⟨b, off, rfl, hcell⟩ := z3u hh (m - 1) (by omega)
 by_cases h1 : 1 < m
 ·have hd : decide ((1 : Int) < (m : Int)) = true := jT (by omega)
  have hm1 : (m : Int) - 1 = ((m - 1 : Nat) : Int) := by omega
  obtain ⟨k, hk⟩ : ∃ k, k = m - 1 := ⟨_, rfl⟩
  rw [<- hk] at hcell hm1
  have hkm : k < m := by omega
  have hkb : k <= 1000000001 := by omega
  have hmb : m <= 1000000001 := by omega
  have hkc : k <= c := by omega
  have hbe := z3x (P.getD k [])
  obtain ⟨X, hX⟩ : ∃ X, X = bs (P.getD k []) := ⟨_, rfl⟩
  rw [<- hX] at hbe hcell
  clear hX
  by_cases h2 : P.getD k [] = []
  ·have hlast : P.getLast? = some [] := by
    rw [HLAST.out, <- hn, <- hk]
    rw [List.getD_eq_getElem?_getD, List.getElem?_eq_getElem (by omega), Option.getD_some] at h2 ⊢
    exact h2
   have HQ : Hid (zqd (ls s) = P.take k) := by
    show _ = _
    rw [HP.out, if_pos ⟨by omega, hlast⟩, List.dropLast_eq_take, <- hn, hk]
   rw [jT h2] at hbe
   have HN := jL hn
   have hh2 := hh.take k (by omega)
   have HK := jL hk
   clear hn hk h2 hlast
   go_wp2
   go_ret
   have hl : (P.take k).length = k := by have := HN.out; have := HK.out; simp; omega
   refine ⟨some ⟨b, off, none⟩, c, ?_, ?_, ?_, hb⟩
   ·rw [HQ.out, hl]; rfl
   ·rw [HQ.out, hl]; exact hkc
   ·rw [HQ.out, hl]
    have e : wv (P.take k) = (wv P).take k := by simp [wv, List.map_take]
    rw [e]; exact hh2
  ·have hlast : ¬ P.getLast? = some [] := by
    rw [HLAST.out, <- hn, <- hk]
    rw [List.getD_eq_getElem?_getD, List.getElem?_eq_getElem (by omega), Option.getD_some] at h2 ⊢
    exact h2
   have HQ : Hid (zqd (ls s) = P) := by
    show _ = _
    rw [HP.out, if_neg (fun h => hlast h.2)]
   rw [jF h2] at hbe
   have HN := jL hn
   clear hn hk h2 hlast
   go_wp2
   go_ret
   refine ⟨some ⟨b, off, none⟩, c, ?_, ?_, ?_, hb⟩
   ·rw [HQ.out, <- HN.out]; rfl
   ·rw [HQ.out, <- HN.out]; exact hmc
   ·rw [HQ.out, <- HN.out]; exact hh
 ·have hd : decide ((1 : Int) < (m : Int)) = false := jF (by omega)
  have HQ : Hid (zqd (ls s) = P) := by
   show _ = _
   rw [HP.out, if_neg (fun h => h1 (by omega))]
  have HN := jL hn
  clear hn
  go_wp2
  go_ret
  refine ⟨some ⟨b, off, none⟩, c, ?_, ?_, ?_, hb⟩
  ·rw [HQ.out, <- HN.out]; rfl
  ·rw [HQ.out, <- HN.out]; exact hmc
  ·rw [HQ.out, <- HN.out]; exact hh
end

section
open Go.RowKit
set_option maxHeartbeats 16000000
def zpf (x : Nat) : Nat := min x 1099511627776
theorem zpg (x B d : Nat) (hB : 0 < B) : zpf (zpf x * B + d) = zpf (x * B + d) := by
 unfold zpf
 rcases Nat.lt_or_ge x 1099511627776 with h | h
 ·rw [Nat.min_eq_left (Nat.le_of_lt h)]
 ·rw [Nat.min_eq_right h]
  have h1 : 1099511627776 * 1 <= 1099511627776 * B := Nat.mul_le_mul_left _ hB
  have h2 : 1099511627776 * B <= x * B := Nat.mul_le_mul_right _ h
  omega
theorem zph (x : Nat) : zpf x <= 1099511627776 := by unfold zpf; omega
theorem zpi (x b : Nat) (hb : b <= 1099511627776) : zpf x < b ↔ x < b := by unfold zpf; omega
theorem zpj (x : Nat) (h : x <= 1099511627776) : zpf x = x := by unfold zpf; omega
def nV (l : List UInt8) : Int := (zpf ((zqi l).getD 0) : Nat)
def nK (l : List UInt8) : Bool := (zqi l).isSome
theorem zpk {l r : List UInt8} {B : Nat} (hl : l ≠ []) (hb : zqh l = (B, r)) (ha : r.all (fun c => decide (zqe c < B)) = true) : nV l = (zpf (zqf B 0 r) : Nat) /\ nK l = true := by
 unfold nV nK zqi
 rw [if_neg hl, hb, if_pos ha]
 exact ⟨rfl, rfl⟩
theorem zpl {l r : List UInt8} {B : Nat} (hl : l ≠ []) (hb : zqh l = (B, r)) (ha : ¬ r.all (fun c => decide (zqe c < B)) = true) : nV l = 0 /\ nK l = false := by
 unfold nV nK zqi
 rw [if_neg hl, hb, if_neg ha]
 exact ⟨rfl, rfl⟩
theorem zpm (B : Nat) (t : ByteArray) (k : Nat) (h : k < t.size) : zqf B 0 ((ls t).take (k + 1)) = zqf B 0 ((ls t).take k) * B + zqe t[k] := by
 rw [zca t k h, zqg]; rfl
theorem zpn {p : UInt8 -> Bool} (t : ByteArray) (k : Nat) (h : k < t.size) (hp : p t[k] = false) : ¬ (ls t).all p = true := by
 rw [List.all_eq_true]
 intro hall
 have hm : t[k] ∈ ls t := by
  have hk : k < (ls t).length := by rw [zb4]; exact h
  have := List.getElem_mem hk
  rwa [zb8 t k h] at this
 rw [hall _ hm] at hp
 cases hp
theorem zpo {s : ByteArray} (h : 0 < s.size) : ls s ≠ [] := by
 intro e
 have := zb4 s
 rw [e] at this
 simp at this
 omega
theorem zpp (s : ByteArray) (h : 2 <= s.size) : ls s = s[0] :: s[1] :: (ls s).drop 2 := by
 have e := z12 s 0 (by omega)
 rw [List.drop_zero] at e
 rw [e, z12 s 1 (by omega)]
 simp
theorem zpq (s : ByteArray) (k : Nat) : ls (s.extract k s.size) = (ls s).drop k := by
 rw [zbw, zb0]
 unfold sub
 exact List.take_of_length_le (by rw [List.length_drop, zb4]; omega)
theorem zpr (s : ByteArray) (w : World) (hs : s.size <= 1000000000) :
 Calls Tryz.prog 121 #[.string s] w fun e w' => e = .returned (.tuple #[.int .i64 (nV (ls s)), .bool (nK (ls s))]) /\ Below w.heap.size w w' := by
 by_cases h0 : s.size = 0
 ·have hbe : (s.toList == ([] : List UInt8)) = true := by rw [zb3]; have := zb4 s; cases hx : ls s with
   | nil => rfl
   | cons c r => rw [hx] at this; simp at this; omega
  have HN : Hid (nV (ls s) = 0 /\ nK (ls s) = false) := by
   have : ls s = [] := List.eq_nil_of_length_eq_zero (by rw [zb4]; exact h0)
   rw [this]
   exact jL ⟨rfl, rfl⟩
  clear h0
  go_enter Tryz.func121, Tryz.ntmps121
  go_wp2
  go_ret2
  exact ⟨by rw [HN.out.1, HN.out.2]; rfl, Below.refl _ _⟩
 ·have hne := zpo (s := s) (by omega)
  have hbe : (s.toList == ([] : List UInt8)) = false := by rw [zb3]; cases hx : ls s with
   | nil => exact absurd hx hne
   | cons c r => rfl
  have HNE := jL hne
  clear hne
  by_cases h2 : 2 <= s.size
  ·have h2i : (2 : Int) <= (s.size : Int) := by omega
   have h2d : decide ((2 : Int) <= (s.size : Int)) = true := jT h2i
   have hl0 : 0 < s.size := by omega
   have hl1 : 1 < s.size := by omega
   have HTWO := jL (zpp s h2)
   by_cases hz : s[0] = 48
   ·have hq0 : ((s[0].toNat : Int) == 48) = true := by rw [hz]; rfl
    have HZ0 := jL hz
    clear hz
    by_cases hx : s[1] = 120 \/ s[1] = 88
    ·have HB0 : Hid (zqh (ls s) = (16, (ls s).drop 2)) := by
      show _ = _
      rw [HTWO.out, HZ0.out]
      exact zqv _ _ hx
     rcases hx with hx | hx
     ·have hq1 : ((s[1].toNat : Int) == 120) = true := by rw [hx]; rfl
      clear hx
      go_enter Tryz.func121, Tryz.ntmps121
      go_wp2
      go_quiet (fail)
      have HTS : Hid ((s.extract 2 s.size).size <= 1000000000) := by show _ <= _; rw [ByteArray.size_extract]; omega
      have HE := jL (zpq s 2)
      have HB : Hid (zqh (ls s) = (16, ls (s.extract 2 s.size))) := by show _ = _; rw [HB0.out, HE.out]
      generalize s.extract 2 s.size = t at *
      go_wp2
      have hts : t.size <= 1000000000 := HTS.out
      go_loop [5, 6] (fun n i => ∃ (k : Nat) (z : Int), k <= t.size /\ i = .int .i64 k /\ n = .int .i64 z /\ Hid (z = (zpf (zqf 16 0 ((ls t).take k)) : Nat)) /\ Hid (((ls t).take k).all (fun c => decide (zqe c < 16)) = true)) (fun _ i => t.size - (intOf i).toNat)
      case atStart => exact ⟨0, 0, Nat.zero_le _, rfl, rfl, jL rfl, jL rfl⟩
      case round =>
       obtain ⟨k, z, hk, rfl, rfl, HZ, HALL⟩ := hrel
       by_cases hlt : k < t.size
       ·have hd := zpd t[k]
        have hz1 : 0 <= z := by rw [HZ.out]; omega
        have hz2 : z <= 1099511627776 := by rw [HZ.out]; have := zph (zqf 16 0 ((ls t).take k)); omega
        obtain ⟨d, hde⟩ : ∃ d : Int, d = (zqe t[k] : Nat) := ⟨_, rfl⟩
        have hd0 : 0 <= d := by omega
        rw [<- hde] at hd
        by_cases hdb : d < 16
        ·have hge : ¬ (16 : Int) <= d := by omega
         have hdd : decide ((16 : Int) <= d) = false := jF hge
         obtain ⟨z2, hz3⟩ : ∃ z2, min (z * 16 + d) 1099511627776 = z2 := ⟨_, rfl⟩
         have hmin : ∀ (W : World) ts ty, (Builtin.min_ ts ty #[.int .i64 (z * 16 + d), .int .i64 1099511627776]).run Tryz.prog W = .ok (.int .i64 z2) W := fun W ts ty => zu3 W ts ty _ _ _ hz3
         have HZ2 : Hid (z2 = (zpf (zqf 16 0 ((ls t).take (k + 1))) : Nat)) := by
          show _ = _
          have e := zpg (zqf 16 0 ((ls t).take k)) 16 (zqe t[k]) (by decide)
          rw [zpm 16 t k hlt, <- e, <- hz3, HZ.out, hde]
          unfold zpf
          omega
         have HA2 : Hid (((ls t).take (k + 1)).all (fun c => decide (zqe c < 16)) = true) := by
          refine jL (zbt _ t k hlt HALL.out ?_)
          exact jT (by omega)
         clear hz3 hde
         go_wp2_with (go_at_call 156; refine (hd _).mono ?_; rintro e w' ⟨rfl, rfl⟩)
         go_round
         case rel => exact ⟨k + 1, z2, by omega, by go_num, rfl, HZ2, HA2⟩
         case measure => simp [intOf]; omega
        ·have hge : (16 : Int) <= d := by omega
         have hdd : decide ((16 : Int) <= d) = true := jT hge
         have HN := jL (zpl HNE.out HB.out (zpn t k hlt (jF (by omega))))
         clear hde
         go_wp2_with (go_at_call 156; refine (hd _).mono ?_; rintro e w' ⟨rfl, rfl⟩)
         go_ret2
         exact ⟨by rw [HN.out.1, HN.out.2]; rfl, by first | exact below_drewN (Below.refl _ _) _ | exact below_drewN _ _⟩
       ·obtain rfl : k = t.size := by omega
        have HN : Hid (nV (ls s) = z /\ nK (ls s) = true) := by
         have hz := HZ.out
         have ha := HALL.out
         rw [zcb] at hz ha
         have := zpk HNE.out HB.out ha
         rw [hz]
         exact jL this
        go_wp2
        go_ret2
        exact ⟨by rw [HN.out.1, HN.out.2]; rfl, by first | exact below_drewN (Below.refl _ _) _ | exact below_drewN _ _⟩
     ·have hq1 : ((s[1].toNat : Int) == 120) = false := by rw [hx]; rfl
      have hq2 : ((s[1].toNat : Int) == 88) = true := by rw [hx]; rfl
      clear hx
      go_enter Tryz.func121, Tryz.ntmps121
      go_wp2
      go_quiet (fail)
      have HTS : Hid ((s.extract 2 s.size).size <= 1000000000) := by show _ <= _; rw [ByteArray.size_extract]; omega
      have HE := jL (zpq s 2)
      have HB : Hid (zqh (ls s) = (16, ls (s.extract 2 s.size))) := by show _ = _; rw [HB0.out, HE.out]
      generalize s.extract 2 s.size = t at *
      go_wp2
      have hts : t.size <= 1000000000 := HTS.out
      go_loop [5, 6] (fun n i => ∃ (k : Nat) (z : Int), k <= t.size /\ i = .int .i64 k /\ n = .int .i64 z /\ Hid (z = (zpf (zqf 16 0 ((ls t).take k)) : Nat)) /\ Hid (((ls t).take k).all (fun c => decide (zqe c < 16)) = true)) (fun _ i => t.size - (intOf i).toNat)
      case atStart => exact ⟨0, 0, Nat.zero_le _, rfl, rfl, jL rfl, jL rfl⟩
      case round =>
       obtain ⟨k, z, hk, rfl, rfl, HZ, HALL⟩ := hrel
       by_cases hlt : k < t.size
       ·have hd := zpd t[k]
        have hz1 : 0 <= z := by rw [HZ.out]; omega
        have hz2 : z <= 1099511627776 := by rw [HZ.out]; have := zph (zqf 16 0 ((ls t).take k)); omega
        obtain ⟨d, hde⟩ : ∃ d : Int, d = (zqe t[k] : Nat) := ⟨_, rfl⟩
        have hd0 : 0 <= d := by omega
        rw [<- hde] at hd
        by_cases hdb : d < 16
        ·have hge : ¬ (16 : Int) <= d := by omega
         have hdd : decide ((16 : Int) <= d) = false := jF hge
         obtain ⟨z2, hz3⟩ : ∃ z2, min (z * 16 + d) 1099511627776 = z2 := ⟨_, rfl⟩
         have hmin : ∀ (W : World) ts ty, (Builtin.min_ ts ty #[.int .i64 (z * 16 + d), .int .i64 1099511627776]).run Tryz.prog W = .ok (.int .i64 z2) W := fun W ts ty => zu3 W ts ty _ _ _ hz3
         have HZ2 : Hid (z2 = (zpf (zqf 16 0 ((ls t).take (k + 1))) : Nat)) := by
          show _ = _
          have e := zpg (zqf 16 0 ((ls t).take k)) 16 (zqe t[k]) (by decide)
          rw [zpm 16 t k hlt, <- e, <- hz3, HZ.out, hde]
          unfold zpf
          omega
         have HA2 : Hid (((ls t).take (k + 1)).all (fun c => decide (zqe c < 16)) = true) := by
          refine jL (zbt _ t k hlt HALL.out ?_)
          exact jT (by omega)
         clear hz3 hde
         go_wp2_with (go_at_call 156; refine (hd _).mono ?_; rintro e w' ⟨rfl, rfl⟩)
         go_round
         case rel => exact ⟨k + 1, z2, by omega, by go_num, rfl, HZ2, HA2⟩
         case measure => simp [intOf]; omega
        ·have hge : (16 : Int) <= d := by omega
         have hdd : decide ((16 : Int) <= d) = true := jT hge
         have HN := jL (zpl HNE.out HB.out (zpn t k hlt (jF (by omega))))
         clear hde
         go_wp2_with (go_at_call 156; refine (hd _).mono ?_; rintro e w' ⟨rfl, rfl⟩)
         go_ret2
         exact ⟨by rw [HN.out.1, HN.out.2]; rfl, by first | exact below_drewN (Below.refl _ _) _ | exact below_drewN _ _⟩
       ·obtain rfl : k = t.size := by omega
        have HN : Hid (nV (ls s) = z /\ nK (ls s) = true) := by
         have hz := HZ.out
         have ha := HALL.out
         rw [zcb] at hz ha
         have := zpk HNE.out HB.out ha
         rw [hz]
         exact jL this
        go_wp2
        go_ret2
        exact ⟨by rw [HN.out.1, HN.out.2]; rfl, by first | exact below_drewN (Below.refl _ _) _ | exact below_drewN _ _⟩
    ·have HB0 : Hid (zqh (ls s) = (8, (ls s).drop 1)) := by
      show _ = _
      rw [HTWO.out, HZ0.out]
      exact zqw _ _ hx
     have hq1 : ((s[1].toNat : Int) == 120) = false := by
      rw [beq_eq_false_iff_ne]
      exact fun e => hx (.inl (UInt8.toNat_inj.1 (by rw [show (120 : UInt8).toNat = 120 from rfl]; omega)))
     have hq2 : ((s[1].toNat : Int) == 88) = false := by
      rw [beq_eq_false_iff_ne]
      exact fun e => hx (.inr (UInt8.toNat_inj.1 (by rw [show (88 : UInt8).toNat = 88 from rfl]; omega)))
     clear hx
     go_enter Tryz.func121, Tryz.ntmps121
     go_wp2
     go_quiet (fail)
     have HTS : Hid ((s.extract 1 s.size).size <= 1000000000) := by show _ <= _; rw [ByteArray.size_extract]; omega
     have HE := jL (zpq s 1)
     have HB : Hid (zqh (ls s) = (8, ls (s.extract 1 s.size))) := by show _ = _; rw [HB0.out, HE.out]
     generalize s.extract 1 s.size = t at *
     go_wp2
     have hts : t.size <= 1000000000 := HTS.out
     go_loop [5, 6] (fun n i => ∃ (k : Nat) (z : Int), k <= t.size /\ i = .int .i64 k /\ n = .int .i64 z /\ Hid (z = (zpf (zqf 8 0 ((ls t).take k)) : Nat)) /\ Hid (((ls t).take k).all (fun c => decide (zqe c < 8)) = true)) (fun _ i => t.size - (intOf i).toNat)
     case atStart => exact ⟨0, 0, Nat.zero_le _, rfl, rfl, jL rfl, jL rfl⟩
     case round =>
      obtain ⟨k, z, hk, rfl, rfl, HZ, HALL⟩ := hrel
      by_cases hlt : k < t.size
      ·have hd := zpd t[k]
       have hz1 : 0 <= z := by rw [HZ.out]; omega
       have hz2 : z <= 1099511627776 := by rw [HZ.out]; have := zph (zqf 8 0 ((ls t).take k)); omega
       obtain ⟨d, hde⟩ : ∃ d : Int, d = (zqe t[k] : Nat) := ⟨_, rfl⟩
       have hd0 : 0 <= d := by omega
       rw [<- hde] at hd
       by_cases hdb : d < 8
       ·have hge : ¬ (8 : Int) <= d := by omega
        have hdd : decide ((8 : Int) <= d) = false := jF hge
        obtain ⟨z2, hz3⟩ : ∃ z2, min (z * 8 + d) 1099511627776 = z2 := ⟨_, rfl⟩
        have hmin : ∀ (W : World) ts ty, (Builtin.min_ ts ty #[.int .i64 (z * 8 + d), .int .i64 1099511627776]).run Tryz.prog W = .ok (.int .i64 z2) W := fun W ts ty => zu3 W ts ty _ _ _ hz3
        have HZ2 : Hid (z2 = (zpf (zqf 8 0 ((ls t).take (k + 1))) : Nat)) := by
         show _ = _
         have e := zpg (zqf 8 0 ((ls t).take k)) 8 (zqe t[k]) (by decide)
         rw [zpm 8 t k hlt, <- e, <- hz3, HZ.out, hde]
         unfold zpf
         omega
        have HA2 : Hid (((ls t).take (k + 1)).all (fun c => decide (zqe c < 8)) = true) := by
         refine jL (zbt _ t k hlt HALL.out ?_)
         exact jT (by omega)
        clear hz3 hde
        go_wp2_with (go_at_call 156; refine (hd _).mono ?_; rintro e w' ⟨rfl, rfl⟩)
        go_round
        case rel => exact ⟨k + 1, z2, by omega, by go_num, rfl, HZ2, HA2⟩
        case measure => simp [intOf]; omega
       ·have hge : (8 : Int) <= d := by omega
        have hdd : decide ((8 : Int) <= d) = true := jT hge
        have HN := jL (zpl HNE.out HB.out (zpn t k hlt (jF (by omega))))
        clear hde
        go_wp2_with (go_at_call 156; refine (hd _).mono ?_; rintro e w' ⟨rfl, rfl⟩)
        go_ret2
        exact ⟨by rw [HN.out.1, HN.out.2]; rfl, by first | exact below_drewN (Below.refl _ _) _ | exact below_drewN _ _⟩
      ·obtain rfl : k = t.size := by omega
       have HN : Hid (nV (ls s) = z /\ nK (ls s) = true) := by
        have hz := HZ.out
        have ha := HALL.out
        rw [zcb] at hz ha
        have := zpk HNE.out HB.out ha
        rw [hz]
        exact jL this
       go_wp2
       go_ret2
       exact ⟨by rw [HN.out.1, HN.out.2]; rfl, by first | exact below_drewN (Below.refl _ _) _ | exact below_drewN _ _⟩
   ·have hq0 : ((s[0].toNat : Int) == 48) = false := by
     rw [beq_eq_false_iff_ne]
     exact fun e => hz (UInt8.toNat_inj.1 (by rw [show (48 : UInt8).toNat = 48 from rfl]; omega))
    have HB : Hid (zqh (ls s) = (10, ls s)) := by
     refine jL (zqu _ (.inl ?_))
     rw [HTWO.out]
     simpa using hz
    clear hz
    have HTS := jL hs
    go_enter Tryz.func121, Tryz.ntmps121
    go_wp2
    have HWW := Below.refl w.heap.size w
    have hts : s.size <= 1000000000 := HTS.out
    go_loop [5, 6] (fun n i => ∃ (k : Nat) (z : Int), k <= s.size /\ i = .int .i64 k /\ n = .int .i64 z /\ Hid (z = (zpf (zqf 10 0 ((ls s).take k)) : Nat)) /\ Hid (((ls s).take k).all (fun c => decide (zqe c < 10)) = true)) (fun _ i => s.size - (intOf i).toNat)
    case atStart => exact ⟨0, 0, Nat.zero_le _, rfl, rfl, jL rfl, jL rfl⟩
    case round =>
     obtain ⟨k, z, hk, rfl, rfl, HZ, HALL⟩ := hrel
     by_cases hlt : k < s.size
     ·have hd := zpd s[k]
      have hz1 : 0 <= z := by rw [HZ.out]; omega
      have hz2 : z <= 1099511627776 := by rw [HZ.out]; have := zph (zqf 10 0 ((ls s).take k)); omega
      obtain ⟨d, hde⟩ : ∃ d : Int, d = (zqe s[k] : Nat) := ⟨_, rfl⟩
      have hd0 : 0 <= d := by omega
      rw [<- hde] at hd
      by_cases hdb : d < 10
      ·have hge : ¬ (10 : Int) <= d := by omega
       have hdd : decide ((10 : Int) <= d) = false := jF hge
       obtain ⟨z2, hz3⟩ : ∃ z2, min (z * 10 + d) 1099511627776 = z2 := ⟨_, rfl⟩
       have hmin : ∀ (W : World) ts ty, (Builtin.min_ ts ty #[.int .i64 (z * 10 + d), .int .i64 1099511627776]).run Tryz.prog W = .ok (.int .i64 z2) W := fun W ts ty => zu3 W ts ty _ _ _ hz3
       have HZ2 : Hid (z2 = (zpf (zqf 10 0 ((ls s).take (k + 1))) : Nat)) := by
        show _ = _
        have e := zpg (zqf 10 0 ((ls s).take k)) 10 (zqe s[k]) (by decide)
        rw [zpm 10 s k hlt, <- e, <- hz3, HZ.out, hde]
        unfold zpf
        omega
       have HA2 : Hid (((ls s).take (k + 1)).all (fun c => decide (zqe c < 10)) = true) := by
        refine jL (zbt _ s k hlt HALL.out ?_)
        exact jT (by omega)
       clear hz3 hde
       go_wp2_with (go_at_call 156; refine (hd _).mono ?_; rintro e w' ⟨rfl, rfl⟩)
       go_round
       case rel => exact ⟨k + 1, z2, by omega, by go_num, rfl, HZ2, HA2⟩
       case measure => simp [intOf]; omega
      ·have hge : (10 : Int) <= d := by omega
       have hdd : decide ((10 : Int) <= d) = true := jT hge
       have HN := jL (zpl HNE.out HB.out (zpn s k hlt (jF (by omega))))
       clear hde
       go_wp2_with (go_at_call 156; refine (hd _).mono ?_; rintro e w' ⟨rfl, rfl⟩)
       go_ret2
       exact ⟨by rw [HN.out.1, HN.out.2]; rfl, HWW⟩
     ·obtain rfl : k = s.size := by omega
      have HN : Hid (nV (ls s) = z /\ nK (ls s) = true) := by
       have hz := HZ.out
       have ha := HALL.out
       rw [zcb] at hz ha
       have := zpk HNE.out HB.out ha
       rw [hz]
       exact jL this
      go_wp2
      go_ret2
      exact ⟨by rw [HN.out.1, HN.out.2]; rfl, HWW⟩
  ·have h2d : decide ((2 : Int) <= (s.size : Int)) = false := jF (by omega)
   have HB : Hid (zqh (ls s) = (10, ls s)) := jL (zqu _ (.inr (by rw [zb4]; omega)))
   have HTS := jL hs
   go_enter Tryz.func121, Tryz.ntmps121
   go_wp2
   have HWW := Below.refl w.heap.size w
   have hts : s.size <= 1000000000 := HTS.out
   go_loop [5, 6] (fun n i => ∃ (k : Nat) (z : Int), k <= s.size /\ i = .int .i64 k /\ n = .int .i64 z /\ Hid (z = (zpf (zqf 10 0 ((ls s).take k)) : Nat)) /\ Hid (((ls s).take k).all (fun c => decide (zqe c < 10)) = true)) (fun _ i => s.size - (intOf i).toNat)
   case atStart => exact ⟨0, 0, Nat.zero_le _, rfl, rfl, jL rfl, jL rfl⟩
   case round =>
    obtain ⟨k, z, hk, rfl, rfl, HZ, HALL⟩ := hrel
    by_cases hlt : k < s.size
    ·have hd := zpd s[k]
     have hz1 : 0 <= z := by rw [HZ.out]; omega
     have hz2 : z <= 1099511627776 := by rw [HZ.out]; have := zph (zqf 10 0 ((ls s).take k)); omega
     obtain ⟨d, hde⟩ : ∃ d : Int, d = (zqe s[k] : Nat) := ⟨_, rfl⟩
     have hd0 : 0 <= d := by omega
     rw [<- hde] at hd
     by_cases hdb : d < 10
     ·have hge : ¬ (10 : Int) <= d := by omega
      have hdd : decide ((10 : Int) <= d) = false := jF hge
      obtain ⟨z2, hz3⟩ : ∃ z2, min (z * 10 + d) 1099511627776 = z2 := ⟨_, rfl⟩
      have hmin : ∀ (W : World) ts ty, (Builtin.min_ ts ty #[.int .i64 (z * 10 + d), .int .i64 1099511627776]).run Tryz.prog W = .ok (.int .i64 z2) W := fun W ts ty => zu3 W ts ty _ _ _ hz3
      have HZ2 : Hid (z2 = (zpf (zqf 10 0 ((ls s).take (k + 1))) : Nat)) := by
       show _ = _
       have e := zpg (zqf 10 0 ((ls s).take k)) 10 (zqe s[k]) (by decide)
       rw [zpm 10 s k hlt, <- e, <- hz3, HZ.out, hde]
       unfold zpf
       omega
      have HA2 : Hid (((ls s).take (k + 1)).all (fun c => decide (zqe c < 10)) = true) := by
       refine jL (zbt _ s k hlt HALL.out ?_)
       exact jT (by omega)
      clear hz3 hde
      go_wp2_with (go_at_call 156; refine (hd _).mono ?_; rintro e w' ⟨rfl, rfl⟩)
      go_round
      case rel => exact ⟨k + 1, z2, by omega, by go_num, rfl, HZ2, HA2⟩
      case measure => simp [intOf]; omega
     ·have hge : (10 : Int) <= d := by omega
      have hdd : decide ((10 : Int) <= d) = true := jT hge
      have HN := jL (zpl HNE.out HB.out (zpn s k hlt (jF (by omega))))
      clear hde
      go_wp2_with (go_at_call 156; refine (hd _).mono ?_; rintro e w' ⟨rfl, rfl⟩)
      go_ret2
      exact ⟨by rw [HN.out.1, HN.out.2]; rfl, HWW⟩
    ·obtain rfl : k = s.size := by omega
     have HN : Hid (nV (ls s) = z /\ nK (ls s) = true) := by
      have hz := HZ.out
      have ha := HALL.out
      rw [zcb] at hz ha
      have := zpk HNE.out HB.out ha
      rw [hz]
      exact jL this
     go_wp2
     go_ret2
     exact ⟨by rw [HN.out.1, HN.out.2]; rfl, HWW⟩
end

section
open Go.RowKit
set_option maxHeartbeats 16000000
theorem zqb (v : Nat) : bs (zqp v) = bs (Lib.decDigits (v / 16777216)) ++ ⟨#[46]⟩ ++ bs (Lib.decDigits (v / 65536 % 256)) ++ ⟨#[46]⟩ ++ bs (Lib.decDigits (v / 256 % 256)) ++ ⟨#[46]⟩ ++ bs (Lib.decDigits (v % 256)) := by
 apply zb2
 have e : ls (⟨#[46]⟩ : ByteArray) = [46] := rfl
 simp only [zb6, zb0, e, zqp, z3k]
 simp
set_option maxRecDepth 20000 in
theorem zqc (v : Int) (h0 : 0 <= v) (h1 : v < 4294967296) (w : World) :
 Calls Tryz.prog 70 #[.int .u32 v] w fun e w' => e = .returned (.string (bs (zqp v.toNat))) /\ Below w.heap.size w w' := by
 have HF : Hid (bs (zqp v.toNat) = bs (Lib.decDigits (v / 16777216).toNat) ++ ⟨#[46]⟩ ++ bs (Lib.decDigits (v / 65536 % 256).toNat) ++ ⟨#[46]⟩ ++ bs (Lib.decDigits (v / 256 % 256).toNat) ++ ⟨#[46]⟩ ++ bs (Lib.decDigits (v % 256).toNat)) := by
  show _ = _
  rw [zqb, show v.toNat / 16777216 = (v / 16777216).toNat by omega, show v.toNat / 65536 % 256 = (v / 65536 % 256).toNat by omega, show v.toNat / 256 % 256 = (v / 256 % 256).toNat by omega, show v.toNat % 256 = (v % 256).toNat by omega]
 obtain ⟨a, ha⟩ : ∃ x, v / 16777216 = x := ⟨_, rfl⟩
 obtain ⟨b1, hb1⟩ : ∃ x, v / 65536 = x := ⟨_, rfl⟩
 obtain ⟨c1, hc1⟩ : ∃ x, v / 256 = x := ⟨_, rfl⟩
 obtain ⟨b, hb⟩ : ∃ x, b1 % 256 = x := ⟨_, rfl⟩
 obtain ⟨c, hc⟩ : ∃ x, c1 % 256 = x := ⟨_, rfl⟩
 obtain ⟨d, hd⟩ : ∃ x, v % 256 = x := ⟨_, rfl⟩
 rw [ha, hb1, hc1, hb, hc, hd] at HF
 have ka := z1x a (by omega) (by omega)
 have kb := z1x b (by omega) (by omega)
 have kc := z1x c (by omega) (by omega)
 have kd := z1x d (by omega) (by omega)
 have sa := z1s a.toNat (by omega)
 have sb := z1s b.toNat (by omega)
 have sc := z1s c.toNat (by omega)
 have sd := z1s d.toNat (by omega)
 generalize bs (Lib.decDigits a.toNat) = DA at *
 generalize bs (Lib.decDigits b.toNat) = DB at *
 generalize bs (Lib.decDigits c.toNat) = DC at *
 generalize bs (Lib.decDigits d.toNat) = DD at *
 have hb10 : 0 <= b1 := by omega
 have hc10 : 0 <= c1 := by omega
 go_enter Tryz.func70, Tryz.ntmps70
 go_wp2_with fail
 refine (ka _).mono ?_
 rintro e w1 ⟨rfl, hw1⟩
 go_wp2_with fail
 refine (kb _).mono ?_
 rintro e w2 ⟨rfl, hw2⟩
 replace hw2 := hw1.trans (hw2.mono hw1.size)
 go_wp2_with fail
 refine (kc _).mono ?_
 rintro e w3 ⟨rfl, hw3⟩
 replace hw3 := hw2.trans (hw3.mono hw2.size)
 go_wp2_with fail
 refine (kd _).mono ?_
 rintro e w4 ⟨rfl, hw4⟩
 replace hw4 := hw3.trans (hw4.mono hw3.size)
 go_wp2
 go_ret
 exact ⟨zbz HF.out.symm, hw4⟩
end

section
open Go.RowKit
set_option maxHeartbeats 16000000
theorem zpz (l : List UInt8) : 0 < (zqd l).length := by
 unfold zqd
 have := z3d 46 l
 split
 ·rename_i h; simp; omega
 ·exact this
theorem zp0 (l : List UInt8) : (zqd l).length <= l.length + 1 := by
 unfold zqd
 have := z3f 46 l
 split
 ·simp; omega
 ·exact this
theorem zp1 (c : UInt8) : ∀ l cur, ∀ x ∈ z3a c l cur, x.length <= l.length + cur.length
 | [], cur, x, hx => by simp [z3a] at hx; subst hx; simp
 | b :: r, cur, x, hx => by
   unfold z3a at hx
   split at hx
   ·rcases List.mem_cons.1 hx with h | h
    ·subst h; simp
    ·have := zp1 c r [] x h; simp at this ⊢; omega
   ·have := zp1 c r (cur ++ [b]) x hx; simp at this ⊢; omega
theorem zp2 (l : List UInt8) (x : List UInt8) (hx : x ∈ zqd l) : x.length <= l.length := by
 have key : ∀ y ∈ z3b 46 l, y.length <= l.length := fun y hy => by have := zp1 46 l [] y hy; simpa using this
 unfold zqd at hx
 split at hx
 ·exact key x (List.dropLast_subset _ hx)
 ·exact key x hx
theorem zp3 {α : Type _} (l : List α) (k : Nat) (d : α) (h : k < l.length) : l.getD k d ∈ l := by
 rw [List.getD_eq_getElem?_getD, List.getElem?_eq_getElem h, Option.getD_some]
 exact List.getElem_mem h
theorem zp4 (s : ByteArray) (w : World) (hs : s.size <= 1000000000) :
 Calls Tryz.prog 90 #[.string s] w fun e w' => e = .returned (.bool (zqk (ls s))) /\ Below w.heap.size w w' := by
 have hpar := zpe s w hs
 have hpos := zpz (ls s)
 have hlen := zp0 (ls s)
 have hsz := zp2 (ls s) _ (zp3 (zqd (ls s)) ((zqd (ls s)).length - 1) [] (by omega))
 have HN : Hid (zqk (ls s) = zqj ((zqd (ls s)).getD ((zqd (ls s)).length - 1) [])) := by
  show _ = _
  rw [z3v _ _ hpos]; rfl
 rw [zb4] at hlen hsz
 generalize zqd (ls s) = P at *
 obtain ⟨m, hm⟩ : ∃ n, n = P.length := ⟨_, rfl⟩
 obtain ⟨k, hk⟩ : ∃ k, k = m - 1 := ⟨_, rfl⟩
 have hm1 : (m : Int) - 1 = ((k : Nat) : Int) := by omega
 have hkm : k < m := by omega
 have hkb : k <= 1000000001 := by omega
 unfold z3t at hpar
 rw [<- hm] at hpar
 rw [<- hm, <- hk] at hsz HN
 obtain ⟨x, hx⟩ : ∃ x, x = P.getD k [] := ⟨_, rfl⟩
 rw [<- hx] at hsz HN
 have c1 := z1q (bs x)
 have c2 := zpr (bs x)
 rw [zb0] at c2
 rw [zb5] at c1 c2
 have HD : Hid (zbq (bs x) = (x.all zbe && !x.isEmpty)) := by show _ = _; unfold zbq; rw [zb0]
 have hcellX : ∀ w1 A, Has w1 w1.heap.size A m (wv P) -> ∃ b off, A = some ⟨b, off, none⟩ /\ w1.cell? ⟨b, off + k, none⟩ = some (.string (bs x)) := fun w1 A h => by
  rw [hx]; exact z3u h k hkm
 obtain ⟨X, hX⟩ : ∃ X, X = bs x := ⟨_, rfl⟩
 have HXL : Hid (X.size = x.length) := by show _ = _; rw [hX, zb5]
 have HXG : Hid (∀ h : 1 < X.size, X[1] = x.getD 1 0) := by
  refine jL fun h => ?_
  have hl : 1 < x.length := by rw [<- HXL.out]; exact h
  have e := zb8 X 1 h
  have e2 : ls X = x := by rw [hX, zb0]
  rw [List.getD_eq_getElem?_getD, List.getElem?_eq_getElem hl, Option.getD_some]
  have e3 : (ls X)[1]'(by rw [zb4]; exact h) = x[1] := by simp only [e2]
  rw [<- e3]; exact (e _).symm
 rw [<- hX] at c1 c2 hcellX HD
 clear hm hk hx hX hlen hpos
 go_enter Tryz.func90, Tryz.ntmps90
 go_wp2_with fail
 refine hpar.mono ?_
 rintro e w1 ⟨A, c, rfl, hmc, hh, hb⟩
 obtain ⟨b, off, rfl, hcell⟩ := hcellX w1 A hh
 clear hpar hcellX hh
 cases hdg : zbq X with
 | true =>
   rw [hdg] at c1
   have HY : Hid (zqk (ls s) = true) := by
    show _ = _
    rw [HN.out]
    unfold zqj
    rw [<- HD.out, hdg]
    rfl
   clear hdg
   go_wp2_with (go_at_call 120; refine (c1 _ (by omega)).mono ?_; rintro e w' ⟨rfl, rfl⟩)
   go_ret
   exact ⟨zbx HY.out.symm, hb⟩
 | false =>
   rw [hdg] at c1
   have HY : Hid (zqk (ls s) = (nK x && decide (2 <= x.length) && (x.getD 1 0 == 120 || x.getD 1 0 == 88))) := by
    show _ = _
    rw [HN.out]
    unfold zqj
    rw [<- HD.out, hdg]
    rfl
   clear hdg
   generalize nK x = kk at *
   cases kk with
   | false =>
     go_wp2_with (first | (go_at_call 120; refine (c1 _ (by omega)).mono ?_; rintro e w' ⟨rfl, rfl⟩) | (go_at_call 121; refine (c2 _ (by omega)).mono ?_; rintro e w2 ⟨rfl, hb2⟩))
     go_ret
     exact ⟨zbx (by rw [HY.out]; rfl), hb.trans (hb2.mono hb.size)⟩
   | true =>
     by_cases h2 : 2 <= X.size
     ·have h2d : decide ((2 : Int) <= (X.size : Int)) = true := jT (by omega)
      have hl1 : 1 < X.size := by omega
      have hXd : decide (2 <= x.length) = true := jT (by rw [<- HXL.out]; exact h2)
      have HG := jL (HXG.out hl1)
      have h3 : ((X[1].toNat : Int) == 120) = (x.getD 1 0 == 120) := by
       rw [<- HG.out]
       apply Bool.eq_iff_iff.2
       simp only [beq_iff_eq]
       exact ⟨fun e => UInt8.toNat_inj.1 (by rw [show (120 : UInt8).toNat = 120 from rfl]; omega), fun e => by rw [e]; rfl⟩
      have h4 : ((X[1].toNat : Int) == 88) = (x.getD 1 0 == 88) := by
       rw [<- HG.out]
       apply Bool.eq_iff_iff.2
       simp only [beq_iff_eq]
       exact ⟨fun e => UInt8.toNat_inj.1 (by rw [show (88 : UInt8).toNat = 88 from rfl]; omega), fun e => by rw [e]; rfl⟩
      have HY2 : Hid (zqk (ls s) = ((x.getD 1 0 == 120) || (x.getD 1 0 == 88))) := by show _ = _; rw [HY.out, hXd]; simp
      generalize (x.getD 1 0 == 120) = q1 at *
      generalize (x.getD 1 0 == 88) = q2 at *
      clear hXd HY
      cases q1 <;> cases q2 <;>
      ·go_wp2_with (first | (go_at_call 120; refine (c1 _ (by omega)).mono ?_; rintro e w' ⟨rfl, rfl⟩) | (go_at_call 121; refine (c2 _ (by omega)).mono ?_; rintro e w2 ⟨rfl, hb2⟩))
       go_ret
       exact ⟨zbx (by rw [HY2.out]; rfl), hb.trans (hb2.mono hb.size)⟩
     ·have h2d : decide ((2 : Int) <= (X.size : Int)) = false := jF (by omega)
      have hXd : decide (2 <= x.length) = false := jF (by rw [<- HXL.out]; exact h2)
      have HY2 : Hid (zqk (ls s) = false) := by show _ = _; rw [HY.out, hXd]; simp
      clear hXd HY
      go_wp2_with (first | (go_at_call 120; refine (c1 _ (by omega)).mono ?_; rintro e w' ⟨rfl, rfl⟩) | (go_at_call 121; refine (c2 _ (by omega)).mono ?_; rintro e w2 ⟨rfl, hb2⟩))
      go_ret
      exact ⟨zbx (by rw [HY2.out]), hb.trans (hb2.mono hb.size)⟩
end

end Go.Proofs.YtekaljeicfjkjaaGreatDoor
