/-
Contract of the reference's Points of layer 13.
Contract of Lower of the reference of layer 1.
Contracts of the reference of layer 13: Valid, ToASCII.
The reference's ValidName of layer 14.
-/
import Derived.Test.YtekaljeicfjkjaaGreatDoorK02
import Derived.Test.YtekaljeicfjkjaaGreatDoorK14
import Derived.Test.YtekaljeicfjkjaaGreatDoorK28
import Derived.Test.YtekaljeicfjkjaaGreatDoorK07
import Derived.Deep.LoopGhost
import Derived.BigQuiet
import Derived.Deep.CutRange
import Derived.Deep.CutBlock
import Derived.Test.YtekaljeicfjkjaaGreatDoorK01
import Derived.Test.YtekaljeicfjkjaaGreatDoorK31
import Derived.Test.YtekaljeicfjkjaaGreatDoorK27
namespace Go.Proofs.YtekaljeicfjkjaaGreatDoor
section
open Go.RowKit
set_option maxHeartbeats 16000000
def zw8 (l : List UInt8) (w : World) (e : Ending) (w' : World) : Prop :=
 (∃ v, e = .returned (.tuple #[v, .bool (yaq l).isSome]) /\ w'.ownsRow w.heap.size 3 1 v ((yaq l).getD []).length (((yaq l).getD []).map nvI)) /\ Below w.heap.size w w'
theorem zw8.no {l : List UInt8} {w w' : World} (h : yaq l = none) (hb : Below w.heap.size w w') : zw8 l w (.returned (.tuple #[.slice none 0 0, .bool false])) w' := by
 refine ⟨⟨_, by rw [h]; rfl, ?_⟩, hb⟩
 rw [h]
 exact World.ownsRow_nil _ _ _ _
theorem zw8.yes {l : List UInt8} {P : List Nat} {w w' : World} {v : Value} (h : yaq l = some P) (ho : w'.ownsRow w.heap.size 3 1 v P.length (P.map nvI)) (hb : Below w.heap.size w w') : zw8 l w (.returned (.tuple #[v, .bool true])) w' := by
 refine ⟨⟨v, by rw [h]; rfl, ?_⟩, hb⟩
 rw [h]
 exact ho
def zw9 (j : Nat) : Nat := 256 * 64 ^ (j - 1)
theorem zxa {j : Nat} (h : j <= 4) : zw9 j <= 67108864 := by
 unfold zw9
 have : 64 ^ (j - 1) <= 64 ^ 3 := Nat.pow_le_pow_right (by omega) (by omega)
 omega
theorem zxb {j u c : Nat} (hj : 1 <= j) (hu : u < zw9 j) (hc : c <= 191) : u * 64 + c - 128 < zw9 (j + 1) := by
 have e : zw9 (j + 1) = zw9 j * 64 := by
  unfold zw9
  rw [show j + 1 - 1 = j - 1 + 1 by omega, Nat.pow_succ, Nat.mul_assoc]
 omega
theorem zxc {b k v least : Nat} (h : yam b = some (k, v, least)) (hb : b < 256) : k <= 3 /\ v < 256 /\ least <= 65536 := by
 unfold yam at h
 split at h
 ·obtain ⟨e1, e23⟩ := Prod.mk.inj (Option.some.inj h)
  obtain ⟨e2, e3⟩ := Prod.mk.inj e23
  omega
 ·split at h
  ·obtain ⟨e1, e23⟩ := Prod.mk.inj (Option.some.inj h)
   obtain ⟨e2, e3⟩ := Prod.mk.inj e23
   omega
  ·split at h
   ·obtain ⟨e1, e23⟩ := Prod.mk.inj (Option.some.inj h)
    obtain ⟨e2, e3⟩ := Prod.mk.inj e23
    omega
   ·split at h
    ·obtain ⟨e1, e23⟩ := Prod.mk.inj (Option.some.inj h)
     obtain ⟨e2, e3⟩ := Prod.mk.inj e23
     omega
    ·cases h
set_option maxRecDepth 20000 in
theorem zxd (s : ByteArray) (w : World) (hs : s.size <= 1000000000) :
 Calls Tryz.prog 122 #[.string s] w (zw8 (ls s) w) := by
 obtain ⟨i3, hi3, hz0, hz1, hz2⟩ := info_parts z0j
 go_enter Tryz.func122, Tryz.ntmps122
 go_wp2
 go_loopg [4, 5] s.size (fun g v i wr => ∃ (k : Nat) (acc : List Nat), k <= s.size /\ g = s.size - k /\ i = .int .i64 k /\ acc.length <= k /\ Hid (yaq (ls s) = (yaq ((ls s).drop k)).map (acc ++ ·)) /\
  wr.ownsRow w.heap.size 3 1 v acc.length (acc.map nvI) /\ Below w.heap.size w wr)
 case atStart => exact ⟨0, [], Nat.zero_le _, rfl, rfl, jH, jL (by rw [List.drop_zero]; cases yaq (ls s) <;> rfl), World.ownsRow_nil _ _ _ _, Below.refl _ _⟩
 case round =>
  obtain ⟨k, acc, hk, hg, rfl, hacc, HP, hown, hb⟩ := hrel
  have HG := jL hg
  clear hg
  obtain ⟨A4, c4, rfl, _, _⟩ := Has.of_own hown
  by_cases hlt : k < s.size
  ·have hdr := zcc s k hlt
   have hkd : decide ((k : Int) < (s.size : Int)) = true := jT (by omega)
   have hbl := zce s[k]
   have hw64 : wrap64 (s[k].toNat : Int) = (s[k].toNat : Int) := by unfold wrap64; omega
   go_upto_block 2 with fail
   go_cut [7, 8, 9] from 21 to 50 (fun n v l wx => wr = wx /\ ∃ kk m vv ll : Nat, m = kk + 1 /\ n = .int .i64 (m : Int) /\ v = .int .i64 (vv : Int) /\ l = .int .i64 (ll : Int) /\ Hid (yam s[k].toNat = some (kk, vv, ll)))
   case first =>
    by_cases h1 : s[k].toNat < 128
    ·have dl128 : decide ((s[k].toNat : Int) < 128) = true := jT (by omega)
     have dl224 : decide ((s[k].toNat : Int) < 224) = true := jT (by omega)
     have dl240 : decide ((s[k].toNat : Int) < 240) = true := jT (by omega)
     have dl245 : decide ((s[k].toNat : Int) < 245) = true := jT (by omega)
     have dg194 : decide ((194 : Int) <= (s[k].toNat : Int)) = false := jF (by omega)
     have dg224 : decide ((224 : Int) <= (s[k].toNat : Int)) = false := jF (by omega)
     have dg240 : decide ((240 : Int) <= (s[k].toNat : Int)) = false := jF (by omega)
     have HL : Hid (yam s[k].toNat = some (0, s[k].toNat, 0)) := by show _ = _; unfold yam; rw [if_pos (by omega)]
     go_wp2_with fail
     go_meet
     exact ⟨rfl, 0, 1, s[k].toNat, 0, rfl, rfl, by go_num, rfl, HL⟩
    ·by_cases h2 : s[k].toNat < 194
     ·have dl128 : decide ((s[k].toNat : Int) < 128) = false := jF (by omega)
      have dl224 : decide ((s[k].toNat : Int) < 224) = true := jT (by omega)
      have dl240 : decide ((s[k].toNat : Int) < 240) = true := jT (by omega)
      have dl245 : decide ((s[k].toNat : Int) < 245) = true := jT (by omega)
      have dg194 : decide ((194 : Int) <= (s[k].toNat : Int)) = false := jF (by omega)
      have dg224 : decide ((224 : Int) <= (s[k].toNat : Int)) = false := jF (by omega)
      have dg240 : decide ((240 : Int) <= (s[k].toNat : Int)) = false := jF (by omega)
      have HE : Hid (yaq (ls s) = none) := by
       show _ = _
       have hl : yam s[k].toNat = none := by unfold yam; rw [if_neg (by omega), if_neg (by omega), if_neg (by omega), if_neg (by omega)]
       rw [HP.out, hdr, yav, yao, hl]
       rfl
      clear hdr HP
      go_wp2_with fail
      go_ret2
      exact zw8.no HE.out hb
     ·by_cases h3 : s[k].toNat < 224
      ·have dl128 : decide ((s[k].toNat : Int) < 128) = false := jF (by omega)
       have dl224 : decide ((s[k].toNat : Int) < 224) = true := jT (by omega)
       have dl240 : decide ((s[k].toNat : Int) < 240) = true := jT (by omega)
       have dl245 : decide ((s[k].toNat : Int) < 245) = true := jT (by omega)
       have dg194 : decide ((194 : Int) <= (s[k].toNat : Int)) = true := jT (by omega)
       have dg224 : decide ((224 : Int) <= (s[k].toNat : Int)) = false := jF (by omega)
       have dg240 : decide ((240 : Int) <= (s[k].toNat : Int)) = false := jF (by omega)
       have HL : Hid (yam s[k].toNat = some (1, s[k].toNat - 192, 128)) := by show _ = _; unfold yam; rw [if_neg (by omega), if_pos (by omega)]
       go_wp2_with fail
       go_meet
       exact ⟨rfl, 1, 2, s[k].toNat - 192, 128, rfl, rfl, by go_num, rfl, HL⟩
      ·by_cases h4 : s[k].toNat < 240
       ·have dl128 : decide ((s[k].toNat : Int) < 128) = false := jF (by omega)
        have dl224 : decide ((s[k].toNat : Int) < 224) = false := jF (by omega)
        have dl240 : decide ((s[k].toNat : Int) < 240) = true := jT (by omega)
        have dl245 : decide ((s[k].toNat : Int) < 245) = true := jT (by omega)
        have dg194 : decide ((194 : Int) <= (s[k].toNat : Int)) = true := jT (by omega)
        have dg224 : decide ((224 : Int) <= (s[k].toNat : Int)) = true := jT (by omega)
        have dg240 : decide ((240 : Int) <= (s[k].toNat : Int)) = false := jF (by omega)
        have HL : Hid (yam s[k].toNat = some (2, s[k].toNat - 224, 2048)) := by show _ = _; unfold yam; rw [if_neg (by omega), if_neg (by omega), if_pos (by omega)]
        go_wp2_with fail
        go_meet
        exact ⟨rfl, 2, 3, s[k].toNat - 224, 2048, rfl, rfl, by go_num, rfl, HL⟩
       ·by_cases h5 : s[k].toNat < 245
        ·have dl128 : decide ((s[k].toNat : Int) < 128) = false := jF (by omega)
         have dl224 : decide ((s[k].toNat : Int) < 224) = false := jF (by omega)
         have dl240 : decide ((s[k].toNat : Int) < 240) = false := jF (by omega)
         have dl245 : decide ((s[k].toNat : Int) < 245) = true := jT (by omega)
         have dg194 : decide ((194 : Int) <= (s[k].toNat : Int)) = true := jT (by omega)
         have dg224 : decide ((224 : Int) <= (s[k].toNat : Int)) = true := jT (by omega)
         have dg240 : decide ((240 : Int) <= (s[k].toNat : Int)) = true := jT (by omega)
         have HL : Hid (yam s[k].toNat = some (3, s[k].toNat - 240, 65536)) := by show _ = _; unfold yam; rw [if_neg (by omega), if_neg (by omega), if_neg (by omega), if_pos (by omega)]
         go_wp2_with fail
         go_meet
         exact ⟨rfl, 3, 4, s[k].toNat - 240, 65536, rfl, rfl, by go_num, rfl, HL⟩
        ·have dl128 : decide ((s[k].toNat : Int) < 128) = false := jF (by omega)
         have dl224 : decide ((s[k].toNat : Int) < 224) = false := jF (by omega)
         have dl240 : decide ((s[k].toNat : Int) < 240) = false := jF (by omega)
         have dl245 : decide ((s[k].toNat : Int) < 245) = false := jF (by omega)
         have dg194 : decide ((194 : Int) <= (s[k].toNat : Int)) = true := jT (by omega)
         have dg224 : decide ((224 : Int) <= (s[k].toNat : Int)) = true := jT (by omega)
         have dg240 : decide ((240 : Int) <= (s[k].toNat : Int)) = true := jT (by omega)
         have HE : Hid (yaq (ls s) = none) := by
          show _ = _
          have hl : yam s[k].toNat = none := by unfold yam; rw [if_neg (by omega), if_neg (by omega), if_neg (by omega), if_neg (by omega)]
          rw [HP.out, hdr, yav, yao, hl]
          rfl
         clear hdr HP
         go_wp2_with fail
         go_ret2
         exact zw8.no HE.out hb
   case rest =>
    obtain ⟨rfl, kk, m, vv, ll, hm, rfl, rfl, rfl, HL⟩ := hcut
    have hrange := zxc HL.out s[k].toNat_lt
    obtain ⟨hkk, hvv, hll⟩ := hrange
    by_cases hroom : s.size - k < m
    ·have hd : decide ((s.size : Int) - (k : Int) < (m : Int)) = true := jT (by omega)
     have HE : Hid (yaq (ls s) = none) := by
      show _ = _
      have hc : yan kk vv ((ls s).drop (k + 1)) = none := by
       cases hcc : yan kk vv ((ls s).drop (k + 1)) with
       | none => rfl
       | some u =>
         have := yat _ _ _ _ hcc
         rw [List.length_drop, zb4] at this
         omega
      rw [HP.out, hdr, yav, yao, HL.out]
      simp only [hc]
      rfl
     clear hdr HP
     go_wp2_with fail
     go_ret2
     exact zw8.no HE.out hb
    ·have hd : decide ((s.size : Int) - (k : Int) < (m : Int)) = false := jF (by omega)
     have HDR := jL hdr
     clear hdr
     go_wp2_with fail
     obtain ⟨wo, rfl⟩ : ∃ wo : World, wo = wr := ⟨_, rfl⟩
     obtain ⟨go, rfl⟩ : ∃ go : Nat, go = gk := ⟨_, rfl⟩
     go_loopg [8, 10] (m - 1) (fun g av jj wr => ∃ (u j : Nat), wr = wo /\ 1 <= j /\ j <= m /\ g = m - j /\ av = .int .i64 u /\ jj = .int .i64 j /\ u < zw9 j /\ Hid (yan kk vv ((ls s).drop (k + 1)) = yan (m - j) u ((ls s).drop (k + j))))
     case atStart => exact ⟨vv, 1, rfl, jH, by omega, rfl, rfl, rfl, by unfold zw9; omega, jL (by rw [show m - 1 = kk by omega])⟩
     case round =>
      obtain ⟨u, j, rfl, hj1, hjm, hgj, rfl, rfl, hub, HC⟩ := hrel
      have HGJ := jL hgj
      clear hgj
      have hbn := zxa (show j <= 4 by omega)
      by_cases hjlt : j < m
      ·have hjd : decide ((j : Int) < (m : Int)) = true := jT (by omega)
       have hks : k + j < s.size := by omega
       have hidx : (k : Int) + (j : Int) = ((k + j : Nat) : Int) := by omega
       obtain ⟨q, hq⟩ : ∃ q, q = k + j := ⟨_, rfl⟩
       rw [<- hq] at hks hidx HC
       have hdr2 := zcc s q hks
       have hcl := zce s[q]
       by_cases hbad : 128 <= s[q].toNat /\ s[q].toNat <= 191
       ·have hc1 : decide ((s[q].toNat : Int) < 128) = false := jF (by omega)
        have hc2 : decide ((191 : Int) < (s[q].toNat : Int)) = false := jF (by omega)
        obtain ⟨u2, hu2⟩ : ∃ u2, u2 = u * 64 + s[q].toNat - 128 := ⟨_, rfl⟩
        have hub2 : u2 < zw9 (j + 1) := by rw [hu2]; exact zxb hj1 hub hbad.2
        have hbn2 := zxa (show j + 1 <= 4 by omega)
        have HC2 : Hid (yan kk vv ((ls s).drop (k + 1)) = yan (m - (j + 1)) u2 ((ls s).drop (k + (j + 1)))) := by
         show _ = _
         rw [HC.out, hdr2, show m - j = m - (j + 1) + 1 by omega, yan, if_pos hbad, <- hu2, show k + (j + 1) = q + 1 by omega]
        have hu2i : (u : Int) * 64 + (s[q].toNat : Int) - 128 = (u2 : Int) := by omega
        clear hdr2 hq hbad hu2
        go_wp2_with fail
        go_roundg (m - (j + 1))
        case rel => exact ⟨u2, j + 1, rfl, by omega, by omega, rfl, by go_num, by go_num, hub2, HC2⟩
        case measure => rw [HGJ.out]; omega
       ·have HE : Hid (yaq (ls s) = none) := by
         show _ = _
         have hc : yan kk vv ((ls s).drop (k + 1)) = none := by rw [HC.out, hdr2, show m - j = m - (j + 1) + 1 by omega, yan, if_neg hbad]
         rw [HP.out, HDR.out, yav, yao, HL.out]
         simp only [hc]
         rfl
        clear hdr2 hq
        by_cases hlo : s[q].toNat < 128
        ·have hc1 : decide ((s[q].toNat : Int) < 128) = true := jT (by omega)
         clear hbad
         go_wp2_with fail
         go_ret2
         exact zw8.no HE.out hb
        ·have hc1 : decide ((s[q].toNat : Int) < 128) = false := jF (by omega)
         have hc2 : decide ((191 : Int) < (s[q].toNat : Int)) = true := jT (by omega)
         clear hbad
         go_wp2_with fail
         go_ret2
         exact zw8.no HE.out hb
      ·obtain rfl : j = m := by omega
       have hjd : decide ((j : Int) < (j : Int)) = false := by simp
       have HC3 : Hid (yan kk vv ((ls s).drop (k + 1)) = some u) := by
        show _ = _
        rw [HC.out, Nat.sub_self, yan]
       have cP := zxg (u : Int)
       rw [zxf] at cP
       have hno : (u < ll \/ ptN u = false) -> yaq (ls s) = none := by
        intro hh
        rw [HP.out, HDR.out, yav, yao, HL.out]
        simp only [HC3.out]
        rw [if_pos hh]
        rfl
       by_cases hll2 : u < ll
       ·have hld : decide ((u : Int) < (ll : Int)) = true := jT (by omega)
        have HE : Hid (yaq (ls s) = none) := jL (hno (.inl hll2))
        clear hno
        go_wp2_with (go_at_call 157; refine (cP _).mono ?_; rintro e w' ⟨rfl, rfl⟩)
        go_ret2
        exact zw8.no HE.out hb
       ·have hld : decide ((u : Int) < (ll : Int)) = false := jF (by omega)
        cases hpt : ptN u with
        | false =>
          rw [hpt] at cP
          have HE : Hid (yaq (ls s) = none) := jL (hno (.inr hpt))
          clear hno hpt
          go_wp2_with (go_at_call 157; refine (cP _).mono ?_; rintro e w' ⟨rfl, rfl⟩)
          go_ret2
          exact zw8.no HE.out hb
        | true =>
          rw [hpt] at cP
          have hkj : k + j <= s.size := by omega
          have hkji : (k : Int) + (j : Int) = ((k + j : Nat) : Int) := by omega
          have HP2 : Hid (yaq (ls s) = (yaq ((ls s).drop (k + j))).map ((acc ++ [u]) ++ ·)) := by
           show _ = _
           have hj : k + 1 + kk = k + j := by omega
           rw [HP.out, HDR.out, yav, yao, HL.out]
           simp only [HC3.out]
           rw [if_neg (by rw [hpt]; simp; omega)]
           simp only [List.drop_drop, hj]
           cases yaq ((ls s).drop (k + j)) with
           | none => rfl
           | some Q => simp
          have hul := zzo hpt
          have HACC : Hid ((acc ++ [u]).map nvI = acc.map nvI ++ [.int .i64 (u : Int)] /\ (acc ++ [u]).length = acc.length + 1) := jL ⟨by simp, by simp⟩
          obtain ⟨q, hq⟩ : ∃ q, q = k + j := ⟨_, rfl⟩
          have hq1 : k < q := by omega
          rw [<- hq] at hkj hkji HP2
          clear hno hpt hq
          go_wp2_with (first | (go_at_call 157; refine (cP _).mono ?_; rintro e w' ⟨rfl, rfl⟩) | (at_builtin; refine zcq wr rfl _ _ 108 rfl w.heap.size 3 i3 (.int .i64 0) 8 z0i hi3 hz0 hz1 hz2 rfl _ (by exact rfl) _ _ _ (by exact rfl) hown (by exact rfl) (by unfold maxLen; omega) (by omega) hb jH ?_; intro v' w' hown' hb' _))
          go_roundg (s.size - q)
          case rel =>
           refine ⟨q, acc ++ [u], by omega, rfl, by go_num, by rw [HACC.out.2]; omega, HP2, ?_, hb'⟩
           rw [HACC.out.1, HACC.out.2]
           exact hown'
          case measure => rw [HG.out]; omega
  ·obtain rfl : k = s.size := by omega
   have hkd : decide ((s.size : Int) < (s.size : Int)) = false := by simp
   have HE : Hid (yaq (ls s) = some acc) := by
    show _ = _
    rw [HP.out, zcd, yaw]
    simp
   go_wp2
   go_ret2
   exact zw8.yes HE.out hown hb
end

section
open Go.RowKit
set_option maxHeartbeats 16000000
theorem z1y (s : ByteArray) (w : World) (hs : s.size <= 1000000000) :
 Calls Tryz.prog 87 #[.string s] w fun e w' => e = .returned (.string (zbl s)) /\ Below w.heap.size w w' := by
 obtain ⟨i5, hi5, hz0, hz1, hz2⟩ := info_parts z34
 go_enter Tryz.func87, Tryz.ntmps87
 go_wp2
 go_loopw [3, 4] (fun v i wr => ∃ k : Nat, k <= s.size /\ i = .int .i64 k /\ wr.ownsRow w.heap.size 5 1 v k (((zbk (ls s)).take k).map bv) /\ Below w.heap.size w wr) (fun _ i _ => s.size - (intOf i).toNat)
 case atStart => exact ⟨0, Nat.zero_le _, rfl, World.ownsRow_nil _ _ _ _, Below.refl _ _⟩
 case round =>
  obtain ⟨k, hk, rfl, hown, hb⟩ := hrel
  by_cases hlt : k < s.size
  ·have hnext : Hid ((((zbk (ls s)).take k).map bv) ++ [.int .u8 (zbd (s[k].toNat : Int))] = ((zbk (ls s)).take (k + 1)).map bv) := by
    have hl : k < (zbk (ls s)).length := by rw [zbm, zb4]; exact hlt
    rw [List.take_succ_eq_append_getElem hl, List.map_append]
    simp only [zbk, List.getElem_map, zb8 s k hlt, List.map_cons, List.map_nil, zcf, zbh]
    rfl
   have hbl := zce s[k]
   by_cases hu : zbb (s[k].toNat : Int) = true
   ·have hlo : Hid (zbd (s[k].toNat : Int) = (s[k].toNat : Int) + 32) := by show _ = _; simp [zbd, hu]
    have h65 : (65 : Int) <= (s[k].toNat : Int) := by simp [zbb] at hu; omega
    have h90 : (s[k].toNat : Int) <= 90 := by simp [zbb] at hu; omega
    clear hu
    go_wp2_with (at_builtin; refine zcq _ rfl _ _ 72 rfl w.heap.size 5 i5 (.int .u8 0) 1 z31 hi5 hz0 hz1 hz2 rfl _ (by exact rfl) _ _ _ (by exact rfl) hown (by exact rfl) (by unfold maxLen; omega) (by omega) hb jH ?_; intro v' w' hown' hb' _)
    go_roundw
    case rel => exact ⟨k + 1, by omega, by go_num, by rw [<- hnext.out, hlo.out]; exact hown', hb'⟩
    case measure => simp [intOf]; omega
   ·have hlo : Hid (zbd (s[k].toNat : Int) = (s[k].toNat : Int)) := by show _ = _; simp [zbd, hu]
    have hnu : ¬ ((65 : Int) <= (s[k].toNat : Int) /\ (s[k].toNat : Int) <= 90) := by
     intro hc
     exact hu (by simp [zbb]; omega)
    clear hu
    by_cases h65 : (65 : Int) <= (s[k].toNat : Int)
    ·have h90 : ¬ (s[k].toNat : Int) <= 90 := fun hc => hnu ⟨h65, hc⟩
     clear hnu
     go_wp2_with (at_builtin; refine zcq _ rfl _ _ 72 rfl w.heap.size 5 i5 (.int .u8 0) 1 z31 hi5 hz0 hz1 hz2 rfl _ (by exact rfl) _ _ _ (by exact rfl) hown (by exact rfl) (by unfold maxLen; omega) (by omega) hb jH ?_; intro v' w' hown' hb' _)
     go_roundw
     case rel => exact ⟨k + 1, by omega, by go_num, by rw [<- hnext.out, hlo.out]; exact hown', hb'⟩
     case measure => simp [intOf]; omega
    ·clear hnu
     go_wp2_with (at_builtin; refine zcq _ rfl _ _ 72 rfl w.heap.size 5 i5 (.int .u8 0) 1 z31 hi5 hz0 hz1 hz2 rfl _ (by exact rfl) _ _ _ (by exact rfl) hown (by exact rfl) (by unfold maxLen; omega) (by omega) hb jH ?_; intro v' w' hown' hb' _)
     go_roundw
     case rel => exact ⟨k + 1, by omega, by go_num, by rw [<- hnext.out, hlo.out]; exact hown', hb'⟩
     case measure => simp [intOf]; omega
  ·obtain rfl : k = s.size := by omega
   have hall : Hid (((zbk (ls s)).take s.size) = zbk (ls s)) := by
    show _ = _
    rw [List.take_of_length_le (by rw [zbm, zb4]; exact jH)]
   rw [hall.out] at hown
   have hconv := z36 wr _ _ _ _ hown
   go_wp2
   go_ret
   exact ⟨rfl, hb⟩
end

section
open Go.RowKit
set_option maxHeartbeats 16000000
set_option maxRecDepth 20000 in
theorem zuv (s : ByteArray) (w : World) (hs : s.size <= 1000000000) :
 Calls Tryz.prog 96 #[.string s] w fun e w' => e = .returned (.bool (zs4 (ls s))) /\ Below w.heap.size w w' := by
 by_cases h0 : s.size = 0
 ·have hlab := jL (ztf h0)
  have he : s.toList.isEmpty = true := by rw [zb3]; exact List.isEmpty_iff.2 (List.eq_nil_of_length_eq_zero (by rw [zb4]; exact h0))
  go_enter Tryz.func96, Tryz.ntmps96
  go_wp2
  go_ret
  exact ⟨zbx hlab.out.symm, Below.refl _ _⟩
 ·have he : s.toList.isEmpty = false := by rw [zb3]; exact zte h0
  by_cases h1 : 63 < s.size
  ·have hlab := jL (ztg h1)
   have hd : decide ((63 : Int) < (s.size : Int)) = true := jT (by omega)
   go_enter Tryz.func96, Tryz.ntmps96
   go_wp2
   go_ret
   exact ⟨zbx hlab.out.symm, Below.refl _ _⟩
  ·have hd : decide ((63 : Int) < (s.size : Int)) = false := jF (by omega)
   have hz0 : (0 : Int) < (s.size : Int) := by omega
   have hf0 : 0 < s.size := by omega
   obtain ⟨y0, hy0⟩ : ∃ y0 : Nat, y0 = (s[0]'hf0).toNat := ⟨_, rfl⟩
   obtain ⟨y1, hy1⟩ : ∃ y1 : Nat, y1 = (s[s.size - 1]'(by omega)).toNat := ⟨_, rfl⟩
   have hends := jL (ztj hf0 hy0 hy1)
   by_cases h2 : y0 = 45
   ·have hlab := jL (hends.out.1 (.inl h2))
    have e0 : (((s[0]'hf0).toNat : Int) == 45) = true := by rw [<- hy0, h2]; rfl
    clear hy0 hy1
    go_enter Tryz.func96, Tryz.ntmps96
    go_wp2
    go_ret
    exact ⟨zbx hlab.out.symm, Below.refl _ _⟩
   ·have e0 : (((s[0]'hf0).toNat : Int) == 45) = false := by rw [<- hy0]; simp; omega
    have hsub : (s.size : Int) - 1 = ((s.size - 1 : Nat) : Int) := by omega
    by_cases h3 : y1 = 45
    ·have hlab := jL (hends.out.1 (.inr h3))
     have e1 : (((s[s.size - 1]'(by omega)).toNat : Int) == 45) = true := by rw [<- hy1, h3]; rfl
     clear hy0 hy1
     go_enter Tryz.func96, Tryz.ntmps96
     go_wp2
     go_ret
     exact ⟨zbx hlab.out.symm, Below.refl _ _⟩
    ·have hlab := jL (hends.out.2 ⟨h2, h3, by omega⟩)
     have e1 : (((s[s.size - 1]'(by omega)).toNat : Int) == 45) = false := by rw [<- hy1]; simp; omega
     clear hy0 hy1 hends
     rw [hlab.out]
     have HS : Hid (s.size <= 63) := by show _ <= _; omega
     obtain ⟨R, hR⟩ : ∃ R, R = zth (ls s) := ⟨_, rfl⟩
     have HR := jL hR
     rw [<- hR]
     clear hR hlab
     go_enter Tryz.func96, Tryz.ntmps96
     go_wp2
     clear e0 e1 h2 h3 hsub he
     go_loop [3] (fun i => ∃ k : Nat, k <= s.size /\ i = .int .i64 k /\ Hid (okK (ls s) k = true)) (fun i => s.size - (intOf i).toNat)
     case atStart => exact ⟨0, Nat.zero_le _, rfl, rfl⟩
     case round =>
      obtain ⟨k, hk, rfl, HK⟩ := hrel
      have hs63 : s.size <= 63 := HS.out
      by_cases hlt : k < s.size
      ·have hkl : k < (ls s).length := by rw [zb4]; exact hlt
       have HG := jL (ztm (ls s) k hkl)
       have HB : Hid (okN (ls s)[k].toNat = false -> R = false) := fun hb => by rw [HR.out]; exact ztn k hkl hb
       rw [zb8 s k hlt hkl] at HG HB
       have hkd : decide ((k : Int) < (s.size : Int)) = true := jT (by omega)
       have hyl := zce s[k]
       go_wp2
       all_goals
        first
        | (go_ret
           have hno : okN s[k].toNat = false := by
            rw [ztl]
            first
            | omega
            | (have h := ‹(_ /\ _) /\ _›; simp at h; first | done | omega)
            | (have h := ‹_ /\ _›; simp at h; first | done | omega)
           exact ⟨zbx (HB.out hno).symm, Below.refl _ _⟩)
        | (have hyes : okN s[k].toNat = true := by
            rw [ztk]
            first
            | omega
            | (have h := ‹(_ \/ _) \/ _›; simp at h; first | done | omega)
            | (have h := ‹_ \/ _›; simp at h; first | done | omega)
           have HK2 : Hid (okK (ls s) (k + 1) = true) := by show _ = _; rw [HG.out, HK.out, hyes]; rfl
           clear hyes
           go_round
           case rel => exact ⟨k + 1, by omega, by go_num, HK2⟩
           case measure => simp [intOf]; omega)
      ·obtain rfl : k = s.size := by omega
       have hkd : decide ((s.size : Int) < (s.size : Int)) = false := by simp
       have HR2 : Hid (R = (decide ((ls s).take 4 ≠ xnL) || zs2 ((ls s).drop 4))) := by
        show _ = _
        rw [HR.out]
        exact zto (by rw [zb4]; exact HK.out)
       by_cases h4 : s.size < 4
       ·have hd4 : decide ((s.size : Int) < 4) = true := jT (by omega)
        have HR3 : Hid (R = true) := by show _ = _; rw [HR2.out, ztp (by rw [zb4]; exact h4)]; rfl
        go_wp2
        go_ret
        exact ⟨zbx HR3.out.symm, Below.refl _ _⟩
       ·have hd4 : decide ((s.size : Int) < 4) = false := jF (by omega)
        have h4z : (4 : Int) <= (s.size : Int) := by omega
        have hx : (s.extract 0 4).toList = (ls s).take 4 := by rw [zb3, zb9, List.drop_zero]
        by_cases hxn : (ls s).take 4 = xnL
        ·have q1 : ((s.extract 0 4).toList != [120, 110, 45, 45]) = false := by rw [hx, hxn]; rfl
         have q2 : ((s.extract 0 4).toList == [120, 110, 45, 45]) = true := by rw [hx, hxn]; rfl
         have c1 := zua (s.extract 4 s.size) w
         have hr : Hid (R = zs2 (ls (s.extract 4 s.size))) := by
          show _ = _
          rw [HR2.out, jF (by simp [hxn]), Bool.false_or, zb9, List.take_of_length_le (by rw [List.length_drop, zb4]; exact jH)]
         rw [<- hr.out] at c1
         clear hx hxn
         go_wp2_with (go_at_call 126; refine c1.mono ?_; rintro e w' ⟨rfl, hb'⟩)
         go_ret
         exact ⟨rfl, hb'⟩
        ·have q1 : ((s.extract 0 4).toList != [120, 110, 45, 45]) = true := by rw [hx, bne_iff_ne]; exact hxn
         have q2 : ((s.extract 0 4).toList == [120, 110, 45, 45]) = false := by rw [hx]; exact beq_false_of_ne hxn
         have HR3 : Hid (R = true) := by show _ = _; rw [HR2.out, jT hxn]; rfl
         clear hx hxn
         go_wp2
         go_ret
         exact ⟨zbx HR3.out.symm, Below.refl _ _⟩
theorem zuw {l : List UInt8} (h : zs4 l = false) : toU l = (14, []) := by unfold toU; rw [if_neg (by rw [h]; simp)]
theorem zux {l : List UInt8} {p : List Nat} (h : zs4 l = true) (hx : l.take 4 = xnL) (hd : zye (l.drop 4) = .ok p) : toU l = (0, yas p) := by
 unfold toU zs6 zs6.puV'
 rw [if_pos h, if_pos hx, hd]
theorem zuy {l : List UInt8} (h : zs4 l = true) (hx : ¬ l.take 4 = xnL) : toU l = (0, l) := by
 unfold toU zs6
 rw [if_pos h, if_neg hx]
theorem zuz {l : List UInt8} (h : yaq l = none) : toA l = (4, []) := by unfold toA; rw [h]
theorem zu0 {l : List UInt8} {P : List Nat} (h : yaq l = some P) (hl : 256 < P.length) : toA l = (3, []) := by
 unfold toA
 rw [h]
 exact if_pos hl
theorem zu1 {l : List UInt8} {P : List Nat} (h : yaq l = some P) (hl : ¬ 256 < P.length) : toA l = if zs4 (zs5 l P) = true then (0, zs5 l P) else (14, []) := by
 unfold toA
 rw [h]
 exact if_neg hl
set_option maxRecDepth 20000 in
theorem zu2 (s : ByteArray) (w : World) (hs : s.size <= 1000000000) :
 Calls Tryz.prog 93 #[.string s] w fun e w' => e = .returned (.tuple #[.string (bs (toA (ls s)).2), .int .i64 ((toA (ls s)).1 : Nat)]) /\ Below w.heap.size w w' := by
 have c1 := zxd s w hs
 unfold zw8 at c1
 cases hp : yaq (ls s) with
 | none =>
   rw [zuz hp]
   rw [hp] at c1
   clear hp
   go_enter Tryz.func93, Tryz.ntmps93
   go_wp2_with fail
   refine c1.mono ?_
   rintro e w1 ⟨⟨v, rfl, _⟩, hb⟩
   go_wp2
   go_ret2
   exact ⟨rfl, hb⟩
 | some P =>
   obtain ⟨hpt, htx⟩ := ya6 hp
   have hle := (ya8 P).1
   rw [htx, zb4] at hle
   rw [hp] at c1
   by_cases h256 : 256 < P.length
   ·rw [zu0 hp h256]
    have hd : decide ((256 : Int) < (P.length : Int)) = true := jT (by omega)
    clear hp hpt htx
    go_enter Tryz.func93, Tryz.ntmps93
    go_wp2_with fail
    refine c1.mono ?_
    rintro e w1 ⟨⟨v, rfl, hown⟩, hb⟩
    obtain ⟨A1, k1, rfl, hh, _⟩ := Has.of_own hown
    rw [show (some P).getD [] = P from rfl] at *
    rw [show (some P).isSome = true from rfl]
    go_wp2
    go_ret2
    exact ⟨rfl, hb⟩
   ·rw [zu1 hp h256]
    have hd : decide ((256 : Int) < (P.length : Int)) = false := jF (by omega)
    have cL := fun W => z1y s W hs
    by_cases hlt : P.length < s.size
    ·have hlN : decide ((P.length : Int) < (s.size : Int)) = true := jT (by omega)
     have hsz : (zbl s).size = s.size := by rw [<- zb4, show ls (zbl s) = zbk (ls s) from rfl, zbm, zb4]
     have c2 := fun W => zxd (zbl s) W (by omega)
     unfold zw8 at c2
     rw [show ls (zbl s) = zbk (ls s) from rfl, ybj, hp, Option.map_some, show (some (P.map ybc)).getD [] = P.map ybc from rfl, show (some (P.map ybc)).isSome = true from rfl] at c2
     have hpt2 : ∀ x ∈ P.map ybc, ptN x = true := by
      intro x hx
      obtain ⟨y, hy, rfl⟩ := List.mem_map.1 hx
      exact ybg (hpt y hy)
     have eO : zs5 (ls s) P = xnL ++ zyh (P.map ybc) := by unfold zs5; rw [if_pos (by rw [zb4]; exact hlt)]
     obtain ⟨Q, hQ⟩ : ∃ Q, Q = P.map ybc := ⟨_, rfl⟩
     have hQl : Q.length = P.length := by rw [hQ, List.length_map]
     rw [<- hQ] at c2 hpt2 eO
     have cE := fun A c B W hA hB => zxw (Q.map (fun n : Nat => (n : Int))) A Q.length c B W hA hB
     rw [zy0 hpt2 (by omega)] at cE
     obtain ⟨X, hX⟩ : ∃ X, X = bs (zyh Q) := ⟨_, rfl⟩
     rw [show ((0 : Nat), zyh Q).2 = zyh Q from rfl, show (((0 : Nat), zyh Q).1 : Nat) = 0 from rfl, <- hX] at cE
     have hXl : X.size <= 4000 := by
      have := zys hpt2 (by omega)
      rw [hX, zb5]
      omega
     have hY : ∀ Y : ByteArray, Y = (⟨#[120, 110, 45, 45]⟩ : ByteArray) ++ X -> Y.size <= 1000000000 /\ ls Y = zs5 (ls s) P := by
      intro Y hY
      refine ⟨?_, ?_⟩
      ·rw [hY, ByteArray.size_append, show (⟨#[120, 110, 45, 45]⟩ : ByteArray).size = 4 from rfl]; omega
      ·rw [hY, zb6, hX, eO]; rfl
     obtain ⟨hYs, eY⟩ := hY _ rfl
     have c4 := fun W => zuv _ W hYs
     rw [eY] at c4
     have HB : Hid (bs (zs5 (ls s) P) = (⟨#[120, 110, 45, 45]⟩ : ByteArray) ++ X) := by show _ = _; rw [<- eY, zb1]
     obtain ⟨O, hO⟩ : ∃ O, O = zs5 (ls s) P := ⟨_, rfl⟩
     rw [<- hO] at c4 HB ⊢
     rw [show (some P).getD [] = P from rfl, show (some P).isSome = true from rfl] at c1
     obtain ⟨q, hq⟩ : ∃ q, q = zs4 O := ⟨_, rfl⟩
     rw [<- hq] at c4 ⊢
     clear hp hpt htx hX hY eY hO hq eO hQ hQl hpt2 hsz hs hYs hle
     have hfin : (if q = true then ((0 : Nat), O) else (14, [])) = (if q = true then 0 else 14, if q = true then O else []) := by cases q <;> rfl
     rw [hfin]
     have HF : Hid (bs (if q = true then O else []) = if q = true then (⟨#[120, 110, 45, 45]⟩ : ByteArray) ++ X else ByteArray.mk #[]) := by
      show _ = _
      cases q
      ·rfl
      ·exact HB.out
     rw [HF.out]
     clear HF HB hfin
     go_enter Tryz.func93, Tryz.ntmps93
     go_wp2_with fail
     refine c1.mono ?_
     rintro e w1 ⟨⟨v, rfl, hown⟩, hb⟩
     obtain ⟨A1, k1, rfl, hh, _⟩ := Has.of_own hown
     clear hh hown
     go_wp2_with fail
     refine (cL _).mono ?_
     rintro e w2 ⟨rfl, hb2⟩
     replace hb2 := hb.trans (hb2.mono hb.size)
     go_wp2_with fail
     refine (c2 _).mono ?_
     rintro e w3 ⟨⟨v3, rfl, hown3⟩, hb3⟩
     rw [zx5] at hown3
     obtain ⟨A3, k3, rfl, hh3, _⟩ := Has.of_own hown3
     replace hb3 := hb2.trans (hb3.mono hb2.size)
     clear hown3
     go_wp2_with fail
     refine (cE A3 k3 _ w3 hh3 jH).mono ?_
     rintro e w4 ⟨rfl, hb4⟩
     replace hb4 := hb3.trans (hb4.mono hb3.size)
     cases q
     all_goals
      go_wp2_with fail
      refine (c4 _).mono ?_
      rintro e w5 ⟨rfl, hb5⟩
      replace hb5 := hb4.trans (hb5.mono hb4.size)
      go_wp2
      go_ret2
      exact ⟨rfl, hb5⟩
    ·have hlN : decide ((P.length : Int) < (s.size : Int)) = false := jF (by omega)
     have eO : zs5 (ls s) P = zbk (ls s) := by unfold zs5; rw [if_neg (by rw [zb4]; exact hlt)]
     rw [eO]
     have c4 := fun W => zuv (zbl s) W (by rw [<- zb4, show ls (zbl s) = zbk (ls s) from rfl, zbm, zb4]; exact hs)
     rw [show ls (zbl s) = zbk (ls s) from rfl] at c4
     have HB : Hid (bs (zbk (ls s)) = zbl s) := rfl
     rw [show (some P).getD [] = P from rfl, show (some P).isSome = true from rfl] at c1
     obtain ⟨O, hO⟩ : ∃ O, O = zbk (ls s) := ⟨_, rfl⟩
     rw [<- hO] at c4 HB ⊢
     obtain ⟨q, hq⟩ : ∃ q, q = zs4 O := ⟨_, rfl⟩
     rw [<- hq] at c4 ⊢
     clear hp hpt htx hO hq eO hle
     have hfin : (if q = true then ((0 : Nat), O) else (14, [])) = (if q = true then 0 else 14, if q = true then O else []) := by cases q <;> rfl
     rw [hfin]
     have HF : Hid (bs (if q = true then O else []) = if q = true then zbl s else ByteArray.mk #[]) := by
      show _ = _
      cases q
      ·rfl
      ·exact HB.out
     rw [HF.out]
     clear HF HB hfin
     go_enter Tryz.func93, Tryz.ntmps93
     go_wp2_with fail
     refine c1.mono ?_
     rintro e w1 ⟨⟨v, rfl, hown⟩, hb⟩
     obtain ⟨A1, k1, rfl, hh, _⟩ := Has.of_own hown
     clear hh hown
     go_wp2_with fail
     refine (cL _).mono ?_
     rintro e w2 ⟨rfl, hb2⟩
     replace hb2 := hb.trans (hb2.mono hb.size)
     cases q
     all_goals
      go_wp2_with fail
      refine (c4 _).mono ?_
      rintro e w5 ⟨rfl, hb5⟩
      replace hb5 := hb2.trans (hb5.mono hb2.size)
      go_wp2
      go_ret2
      exact ⟨rfl, hb5⟩
end

section
open Go.RowKit Go.Shelf
set_option maxHeartbeats 16000000
theorem zju {l : List UInt8} (h1 : l.length <= 253) (h2 : l ≠ []) (h3 : zqk l = false) : vnL l = (z3b 46 l).all zs4 := by
 unfold vnL
 rw [jT h2, jT h1, h3]
 rfl
set_option maxRecDepth 20000 in
theorem zjv : zd3 68 := by
 intro s w hs
 by_cases h0 : s.size = 0
 ·have hnil : ls s = [] := List.eq_nil_of_length_eq_zero (by rw [zb4]; exact h0)
  rw [hnil, show vnL [] = false from rfl]
  have he : (s.toList == ([] : List UInt8)) = true := by rw [zb3, hnil]; rfl
  have he' : s.toList.isEmpty = true := by rw [zb3, hnil]; rfl
  clear h0 hnil
  go_enter Tryz.func68, Tryz.ntmps68
  go_wp2
  go_ret
  exact ⟨rfl, Below.refl _ _⟩
 ·have hne : ls s ≠ [] := fun e => h0 (by have := zb4 s; rw [e] at this; simpa using this.symm)
  have he : (s.toList == ([] : List UInt8)) = false := by rw [zb3]; exact beq_false_of_ne hne
  have he' : s.toList.isEmpty = false := by rw [zb3]; cases hx : ls s with
   | nil => exact absurd hx hne
   | cons _ _ => rfl
  by_cases h1 : 253 < s.size
  ·have hV : vnL (ls s) = false := by
    unfold vnL
    rw [jF (by rw [zb4]; omega : ¬ (ls s).length <= 253)]
    simp
   have hd : decide ((253 : Int) < (s.size : Int)) = true := jT (by omega)
   rw [hV]
   clear h0 hne hV
   go_enter Tryz.func68, Tryz.ntmps68
   go_wp2
   go_ret
   exact ⟨rfl, Below.refl _ _⟩
  ·have hd : decide ((253 : Int) < (s.size : Int)) = false := jF (by omega)
   have c1 := fun W => zp4 s W hs
   cases hq : zqk (ls s) with
   | true =>
     have hV : vnL (ls s) = false := by unfold vnL; rw [hq]; simp
     rw [hq] at c1
     rw [hV]
     clear h0 hne hV hq
     go_enter Tryz.func68, Tryz.ntmps68
     go_wp2_with fail
     refine (c1 _).mono ?_
     rintro e w1 ⟨rfl, hb1⟩
     go_wp2
     go_ret
     exact ⟨rfl, hb1⟩
   | false =>
     have hV : vnL (ls s) = (z3b 46 (ls s)).all zs4 := zju (by rw [zb4]; omega) hne hq
     rw [hq] at c1
     rw [hV]
     have c2 := fun W => z16 s 46 W hs
     have hlen := z3f 46 (ls s)
     rw [zb4] at hlen
     have hszs : ∀ x ∈ z3b 46 (ls s), x.length <= 1000000000 := fun x hx => by have := zp1 46 (ls s) [] x hx; rw [zb4] at this; simp at this; omega
     have hpos := z3d 46 (ls s)
     generalize z3b 46 (ls s) = P at *
     obtain ⟨R, hR⟩ : ∃ R, R = P.all zs4 := ⟨_, rfl⟩
     have HR := jL hR
     rw [<- hR]
     clear h0 hne hV hq hR
     go_enter Tryz.func68, Tryz.ntmps68
     go_wp2_with fail
     refine (c1 _).mono ?_
     rintro e w1 ⟨rfl, hb1⟩
     go_wp2_with fail
     refine (c2 _).mono ?_
     rintro e w2 ⟨v, m, rfl, hown, hb2⟩
     obtain ⟨A, c, rfl, hh, hmc⟩ := Has.of_own hown
     have hm : m = P.length := by have := hh.1; rw [z4a] at this; omega
     obtain ⟨b, off, rfl, _⟩ := z3u hh 0 (by omega)
     have hb0 := hb1.trans (hb2.mono hb1.size)
     have HB := jL hb0
     have HH := jL hh
     have HM := jL hm
     have HSZ := jL hszs
     have hmb : m <= 1000000001 := by omega
     clear hm hh hszs hpos hown hb0 hb1 hb2 c1 c2 hlen
     go_wp2
     go_loopw [4] (fun i wr => ∃ k : Nat, k <= m /\ i = .int .i64 k /\ Hid (R = (P.drop k).all zs4) /\ Below w2.heap.size w2 wr) (fun i _ => m - (intOf i).toNat)
     case atStart => exact ⟨0, Nat.zero_le _, rfl, HR, Below.refl _ _⟩
     case round =>
      obtain ⟨k, hk, rfl, HK, hb3⟩ := hrel
      by_cases hlt : k < m
      ·obtain ⟨b', off', e, hcell⟩ := z3u (HH.out.below hb3) k hlt
       injection e with e
       injection e with e1 e2 _
       subst e1 e2
       have hkP : k < P.length := by rw [<- HM.out]; exact hlt
       have hdr : P.drop k = P.getD k [] :: P.drop (k + 1) := by
        rw [List.drop_eq_getElem_cons hkP, List.getD_eq_getElem?_getD, List.getElem?_eq_getElem hkP, Option.getD_some]
       have hxs : (P.getD k []).length <= 1000000000 := HSZ.out _ (by rw [List.getD_eq_getElem?_getD, List.getElem?_eq_getElem hkP, Option.getD_some]; exact List.getElem_mem hkP)
       have HK2 := HK.out
       rw [hdr, List.all_cons] at HK2
       generalize P.getD k [] = x at *
       have c3 := fun W => zuv (bs x) W (by rw [zb5]; exact hxs)
       simp only [zb0] at c3
       cases hx : zs4 x with
       | true =>
         rw [hx, Bool.true_and] at HK2
         have HN := jL HK2
         rw [hx] at c3
         clear hx HK2 hdr hkP hxs
         go_wp2_with (go_at_call 96; refine (c3 _).mono ?_; rintro e w4 ⟨rfl, hb4⟩)
         go_roundw
         case rel => exact ⟨k + 1, by omega, by go_num, HN, hb3.trans (hb4.mono hb3.size)⟩
         case measure => simp [intOf]; omega
       | false =>
         rw [hx, Bool.false_and] at HK2
         have HN := jL HK2
         rw [hx] at c3
         clear hx HK2 hdr hkP hxs
         go_wp2_with (go_at_call 96; refine (c3 _).mono ?_; rintro e w4 ⟨rfl, hb4⟩)
         go_ret
         exact ⟨zbx HN.out.symm, HB.out.trans ((hb3.trans (hb4.mono hb3.size)).mono HB.out.size)⟩
      ·obtain rfl : k = m := by omega
       have HN : Hid (R = true) := by
        show _ = _
        rw [HK.out, List.drop_eq_nil_of_le (by have := HM.out; omega)]
        rfl
       go_wp2
       go_ret
       exact ⟨zbx HN.out.symm, HB.out.trans (hb3.mono HB.out.size)⟩
end

end Go.Proofs.YtekaljeicfjkjaaGreatDoor
