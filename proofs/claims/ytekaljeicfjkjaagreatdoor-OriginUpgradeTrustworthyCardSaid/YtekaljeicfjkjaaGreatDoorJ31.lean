/-
Contract of the reference's Points of layer 13.
Contract of Lower of the reference of layer 1.
Contracts of the reference of layer 13: Valid, ToASCII.
The reference's ValidName of layer 14.
The reference's Valid and Format of layer 14; the walk of HostFormatMatchesSpec (written by tools/gen-HrF.py).
The reference's Covers of layer 14.
Loopback of package origin and of its reference (written by tools/gen-OrL.py).
-/
import Derived.Test.YtekaljeicfjkjaaGreatDoorJ02
import Derived.Test.YtekaljeicfjkjaaGreatDoorJ13
import Derived.Test.YtekaljeicfjkjaaGreatDoorJ27
import Derived.Test.YtekaljeicfjkjaaGreatDoorJ07
import Derived.Deep.LoopGhost
import Derived.BigQuiet
import Derived.Deep.CutRange
import Derived.Deep.CutBlock
import Derived.Test.YtekaljeicfjkjaaGreatDoorJ01
import Derived.Test.YtekaljeicfjkjaaGreatDoorJ30
import Derived.Test.YtekaljeicfjkjaaGreatDoorJ15
import Derived.Test.YtekaljeicfjkjaaGreatDoorJ22
import Derived.Test.YtekaljeicfjkjaaGreatDoorJ09
import Derived.Test.YtekaljeicfjkjaaGreatDoorJ26
import Derived.Test.YtekaljeicfjkjaaGreatDoorJ25
namespace Go.Proofs.YtekaljeicfjkjaaGreatDoor
section
open Go.RowKit
set_option maxHeartbeats 16000000
def zwj (l : List UInt8) (w : World) (e : Ending) (w' : World) : Prop :=
 (∃ v, e = .returned (.tuple #[v, .bool (yah l).isSome]) /\ w'.ownsRow w.heap.size 3 1 v ((yah l).getD []).length (((yah l).getD []).map nvI)) /\ Below w.heap.size w w'
theorem zwj.no {l : List UInt8} {w w' : World} (h : yah l = none) (hb : Below w.heap.size w w') : zwj l w (.returned (.tuple #[.slice none 0 0, .bool false])) w' := by
 refine ⟨⟨_, by rw [h]; rfl, ?_⟩, hb⟩
 rw [h]
 exact World.ownsRow_nil _ _ _ _
theorem zwj.yes {l : List UInt8} {P : List Nat} {w w' : World} {v : Value} (h : yah l = some P) (ho : w'.ownsRow w.heap.size 3 1 v P.length (P.map nvI)) (hb : Below w.heap.size w w') : zwj l w (.returned (.tuple #[v, .bool true])) w' := by
 refine ⟨⟨v, by rw [h]; rfl, ?_⟩, hb⟩
 rw [h]
 exact ho
def zwk (j : Nat) : Nat := 256 * 64 ^ (j - 1)
theorem zwl {j : Nat} (h : j <= 4) : zwk j <= 67108864 := by
 unfold zwk
 have : 64 ^ (j - 1) <= 64 ^ 3 := Nat.pow_le_pow_right (by omega) (by omega)
 omega
theorem zwm {j u c : Nat} (hj : 1 <= j) (hu : u < zwk j) (hc : c <= 191) : u * 64 + c - 128 < zwk (j + 1) := by
 have e : zwk (j + 1) = zwk j * 64 := by
  unfold zwk
  rw [show j + 1 - 1 = j - 1 + 1 by omega, Nat.pow_succ, Nat.mul_assoc]
 omega
theorem zwn {b k v least : Nat} (h : yad b = some (k, v, least)) (hb : b < 256) : k <= 3 /\ v < 256 /\ least <= 65536 := by
 unfold yad at h
 split at h
 ·obtain ⟨e1, e23⟩ := Prod.mk.inj (Option.some.inj h)
  obtain ⟨e2, e3⟩ := Prod.mk.inj e23
  omega
 ·split at h
  ·obtain ⟨e1, e23⟩ := Prod.mk.inj (Option.some.inj h)
   obtain ⟨e2, e3⟩ := Prod.mk.inj e23
   omega
  ·split at h
   ·obtain ⟨e1, e23⟩ := Prod.mk.inj (Option.some.inj h)
    obtain ⟨e2, e3⟩ := Prod.mk.inj e23
    omega
   ·split at h
    ·obtain ⟨e1, e23⟩ := Prod.mk.inj (Option.some.inj h)
     obtain ⟨e2, e3⟩ := Prod.mk.inj e23
     omega
    ·cases h
set_option maxRecDepth 20000 in
theorem zwo (s : ByteArray) (w : World) (hs : s.size <= 1000000000) :
 Calls Tryz.prog 122 #[.string s] w (zwj (ls s) w) := by
 obtain ⟨i3, hi3, hz0, hz1, hz2⟩ := info_parts zzu
 go_enter Tryz.func122, Tryz.ntmps122
 go_wp2
 go_loopg [4, 5] s.size (fun g v i wr => ∃ (k : Nat) (acc : List Nat), k <= s.size /\ g = s.size - k /\ i = .int .i64 k /\ acc.length <= k /\ Hid (yah (ls s) = (yah ((ls s).drop k)).map (acc ++ ·)) /\
  wr.ownsRow w.heap.size 3 1 v acc.length (acc.map nvI) /\ Below w.heap.size w wr)
 case atStart => exact ⟨0, [], Nat.zero_le _, rfl, rfl, jH, jL (by rw [List.drop_zero]; cases yah (ls s) <;> rfl), World.ownsRow_nil _ _ _ _, Below.refl _ _⟩
 case round =>
  obtain ⟨k, acc, hk, hg, rfl, hacc, HP, hown, hb⟩ := hrel
  have HG := jL hg
  clear hg
  obtain ⟨A4, c4, rfl, _, _⟩ := Has.of_own hown
  by_cases hlt : k < s.size
  ·have hdr := zcc s k hlt
   have hkd : decide ((k : Int) < (s.size : Int)) = true := jT (by omega)
   have hbl := zce s[k]
   have hw64 : wrap64 (s[k].toNat : Int) = (s[k].toNat : Int) := by unfold wrap64; omega
   go_upto_block 2 with fail
   go_cut [7, 8, 9] from 21 to 50 (fun n v l wx => wr = wx /\ ∃ kk m vv ll : Nat, m = kk + 1 /\ n = .int .i64 (m : Int) /\ v = .int .i64 (vv : Int) /\ l = .int .i64 (ll : Int) /\ Hid (yad s[k].toNat = some (kk, vv, ll)))
   case first =>
    by_cases h1 : s[k].toNat < 128
    ·have dl128 : decide ((s[k].toNat : Int) < 128) = true := jT (by omega)
     have dl224 : decide ((s[k].toNat : Int) < 224) = true := jT (by omega)
     have dl240 : decide ((s[k].toNat : Int) < 240) = true := jT (by omega)
     have dl245 : decide ((s[k].toNat : Int) < 245) = true := jT (by omega)
     have dg194 : decide ((194 : Int) <= (s[k].toNat : Int)) = false := jF (by omega)
     have dg224 : decide ((224 : Int) <= (s[k].toNat : Int)) = false := jF (by omega)
     have dg240 : decide ((240 : Int) <= (s[k].toNat : Int)) = false := jF (by omega)
     have HL : Hid (yad s[k].toNat = some (0, s[k].toNat, 0)) := by show _ = _; unfold yad; rw [if_pos (by omega)]
     go_wp2_with fail
     go_meet
     exact ⟨rfl, 0, 1, s[k].toNat, 0, rfl, rfl, by go_num, rfl, HL⟩
    ·by_cases h2 : s[k].toNat < 194
     ·have dl128 : decide ((s[k].toNat : Int) < 128) = false := jF (by omega)
      have dl224 : decide ((s[k].toNat : Int) < 224) = true := jT (by omega)
      have dl240 : decide ((s[k].toNat : Int) < 240) = true := jT (by omega)
      have dl245 : decide ((s[k].toNat : Int) < 245) = true := jT (by omega)
      have dg194 : decide ((194 : Int) <= (s[k].toNat : Int)) = false := jF (by omega)
      have dg224 : decide ((224 : Int) <= (s[k].toNat : Int)) = false := jF (by omega)
      have dg240 : decide ((240 : Int) <= (s[k].toNat : Int)) = false := jF (by omega)
      have HE : Hid (yah (ls s) = none) := by
       show _ = _
       have hl : yad s[k].toNat = none := by unfold yad; rw [if_neg (by omega), if_neg (by omega), if_neg (by omega), if_neg (by omega)]
       rw [HP.out, hdr, yam, yaf, hl]
       rfl
      clear hdr HP
      go_wp2_with fail
      go_ret2
      exact zwj.no HE.out hb
     ·by_cases h3 : s[k].toNat < 224
      ·have dl128 : decide ((s[k].toNat : Int) < 128) = false := jF (by omega)
       have dl224 : decide ((s[k].toNat : Int) < 224) = true := jT (by omega)
       have dl240 : decide ((s[k].toNat : Int) < 240) = true := jT (by omega)
       have dl245 : decide ((s[k].toNat : Int) < 245) = true := jT (by omega)
       have dg194 : decide ((194 : Int) <= (s[k].toNat : Int)) = true := jT (by omega)
       have dg224 : decide ((224 : Int) <= (s[k].toNat : Int)) = false := jF (by omega)
       have dg240 : decide ((240 : Int) <= (s[k].toNat : Int)) = false := jF (by omega)
       have HL : Hid (yad s[k].toNat = some (1, s[k].toNat - 192, 128)) := by show _ = _; unfold yad; rw [if_neg (by omega), if_pos (by omega)]
       go_wp2_with fail
       go_meet
       exact ⟨rfl, 1, 2, s[k].toNat - 192, 128, rfl, rfl, by go_num, rfl, HL⟩
      ·by_cases h4 : s[k].toNat < 240
       ·have dl128 : decide ((s[k].toNat : Int) < 128) = false := jF (by omega)
        have dl224 : decide ((s[k].toNat : Int) < 224) = false := jF (by omega)
        have dl240 : decide ((s[k].toNat : Int) < 240) = true := jT (by omega)
        have dl245 : decide ((s[k].toNat : Int) < 245) = true := jT (by omega)
        have dg194 : decide ((194 : Int) <= (s[k].toNat : Int)) = true := jT (by omega)
        have dg224 : decide ((224 : Int) <= (s[k].toNat : Int)) = true := jT (by omega)
        have dg240 : decide ((240 : Int) <= (s[k].toNat : Int)) = false := jF (by omega)
        have HL : Hid (yad s[k].toNat = some (2, s[k].toNat - 224, 2048)) := by show _ = _; unfold yad; rw [if_neg (by omega), if_neg (by omega), if_pos (by omega)]
        go_wp2_with fail
        go_meet
        exact ⟨rfl, 2, 3, s[k].toNat - 224, 2048, rfl, rfl, by go_num, rfl, HL⟩
       ·by_cases h5 : s[k].toNat < 245
        ·have dl128 : decide ((s[k].toNat : Int) < 128) = false := jF (by omega)
         have dl224 : decide ((s[k].toNat : Int) < 224) = false := jF (by omega)
         have dl240 : decide ((s[k].toNat : Int) < 240) = false := jF (by omega)
         have dl245 : decide ((s[k].toNat : Int) < 245) = true := jT (by omega)
         have dg194 : decide ((194 : Int) <= (s[k].toNat : Int)) = true := jT (by omega)
         have dg224 : decide ((224 : Int) <= (s[k].toNat : Int)) = true := jT (by omega)
         have dg240 : decide ((240 : Int) <= (s[k].toNat : Int)) = true := jT (by omega)
         have HL : Hid (yad s[k].toNat = some (3, s[k].toNat - 240, 65536)) := by show _ = _; unfold yad; rw [if_neg (by omega), if_neg (by omega), if_neg (by omega), if_pos (by omega)]
         go_wp2_with fail
         go_meet
         exact ⟨rfl, 3, 4, s[k].toNat - 240, 65536, rfl, rfl, by go_num, rfl, HL⟩
        ·have dl128 : decide ((s[k].toNat : Int) < 128) = false := jF (by omega)
         have dl224 : decide ((s[k].toNat : Int) < 224) = false := jF (by omega)
         have dl240 : decide ((s[k].toNat : Int) < 240) = false := jF (by omega)
         have dl245 : decide ((s[k].toNat : Int) < 245) = false := jF (by omega)
         have dg194 : decide ((194 : Int) <= (s[k].toNat : Int)) = true := jT (by omega)
         have dg224 : decide ((224 : Int) <= (s[k].toNat : Int)) = true := jT (by omega)
         have dg240 : decide ((240 : Int) <= (s[k].toNat : Int)) = true := jT (by omega)
         have HE : Hid (yah (ls s) = none) := by
          show _ = _
          have hl : yad s[k].toNat = none := by unfold yad; rw [if_neg (by omega), if_neg (by omega), if_neg (by omega), if_neg (by omega)]
          rw [HP.out, hdr, yam, yaf, hl]
          rfl
         clear hdr HP
         go_wp2_with fail
         go_ret2
         exact zwj.no HE.out hb
   case rest =>
    obtain ⟨rfl, kk, m, vv, ll, hm, rfl, rfl, rfl, HL⟩ := hcut
    have hrange := zwn HL.out s[k].toNat_lt
    obtain ⟨hkk, hvv, hll⟩ := hrange
    by_cases hroom : s.size - k < m
    ·have hd : decide ((s.size : Int) - (k : Int) < (m : Int)) = true := jT (by omega)
     have HE : Hid (yah (ls s) = none) := by
      show _ = _
      have hc : yae kk vv ((ls s).drop (k + 1)) = none := by
       cases hcc : yae kk vv ((ls s).drop (k + 1)) with
       | none => rfl
       | some u =>
         have := yak _ _ _ _ hcc
         rw [List.length_drop, zb4] at this
         omega
      rw [HP.out, hdr, yam, yaf, HL.out]
      simp only [hc]
      rfl
     clear hdr HP
     go_wp2_with fail
     go_ret2
     exact zwj.no HE.out hb
    ·have hd : decide ((s.size : Int) - (k : Int) < (m : Int)) = false := jF (by omega)
     have HDR := jL hdr
     clear hdr
     go_wp2_with fail
     obtain ⟨wo, rfl⟩ : ∃ wo : World, wo = wr := ⟨_, rfl⟩
     obtain ⟨go, rfl⟩ : ∃ go : Nat, go = gk := ⟨_, rfl⟩
     go_loopg [8, 10] (m - 1) (fun g av jj wr => ∃ (u j : Nat), wr = wo /\ 1 <= j /\ j <= m /\ g = m - j /\ av = .int .i64 u /\ jj = .int .i64 j /\ u < zwk j /\ Hid (yae kk vv ((ls s).drop (k + 1)) = yae (m - j) u ((ls s).drop (k + j))))
     case atStart => exact ⟨vv, 1, rfl, jH, by omega, rfl, rfl, rfl, by unfold zwk; omega, jL (by rw [show m - 1 = kk by omega])⟩
     case round =>
      obtain ⟨u, j, rfl, hj1, hjm, hgj, rfl, rfl, hub, HC⟩ := hrel
      have HGJ := jL hgj
      clear hgj
      have hbn := zwl (show j <= 4 by omega)
      by_cases hjlt : j < m
      ·have hjd : decide ((j : Int) < (m : Int)) = true := jT (by omega)
       have hks : k + j < s.size := by omega
       have hidx : (k : Int) + (j : Int) = ((k + j : Nat) : Int) := by omega
       obtain ⟨q, hq⟩ : ∃ q, q = k + j := ⟨_, rfl⟩
       rw [<- hq] at hks hidx HC
       have hdr2 := zcc s q hks
       have hcl := zce s[q]
       by_cases hbad : 128 <= s[q].toNat /\ s[q].toNat <= 191
       ·have hc1 : decide ((s[q].toNat : Int) < 128) = false := jF (by omega)
        have hc2 : decide ((191 : Int) < (s[q].toNat : Int)) = false := jF (by omega)
        obtain ⟨u2, hu2⟩ : ∃ u2, u2 = u * 64 + s[q].toNat - 128 := ⟨_, rfl⟩
        have hub2 : u2 < zwk (j + 1) := by rw [hu2]; exact zwm hj1 hub hbad.2
        have hbn2 := zwl (show j + 1 <= 4 by omega)
        have HC2 : Hid (yae kk vv ((ls s).drop (k + 1)) = yae (m - (j + 1)) u2 ((ls s).drop (k + (j + 1)))) := by
         show _ = _
         rw [HC.out, hdr2, show m - j = m - (j + 1) + 1 by omega, yae, if_pos hbad, <- hu2, show k + (j + 1) = q + 1 by omega]
        have hu2i : (u : Int) * 64 + (s[q].toNat : Int) - 128 = (u2 : Int) := by omega
        clear hdr2 hq hbad hu2
        go_wp2_with fail
        go_roundg (m - (j + 1))
        case rel => exact ⟨u2, j + 1, rfl, by omega, by omega, rfl, by go_num, by go_num, hub2, HC2⟩
        case measure => rw [HGJ.out]; omega
       ·have HE : Hid (yah (ls s) = none) := by
         show _ = _
         have hc : yae kk vv ((ls s).drop (k + 1)) = none := by rw [HC.out, hdr2, show m - j = m - (j + 1) + 1 by omega, yae, if_neg hbad]
         rw [HP.out, HDR.out, yam, yaf, HL.out]
         simp only [hc]
         rfl
        clear hdr2 hq
        by_cases hlo : s[q].toNat < 128
        ·have hc1 : decide ((s[q].toNat : Int) < 128) = true := jT (by omega)
         clear hbad
         go_wp2_with fail
         go_ret2
         exact zwj.no HE.out hb
        ·have hc1 : decide ((s[q].toNat : Int) < 128) = false := jF (by omega)
         have hc2 : decide ((191 : Int) < (s[q].toNat : Int)) = true := jT (by omega)
         clear hbad
         go_wp2_with fail
         go_ret2
         exact zwj.no HE.out hb
      ·obtain rfl : j = m := by omega
       have hjd : decide ((j : Int) < (j : Int)) = false := by simp
       have HC3 : Hid (yae kk vv ((ls s).drop (k + 1)) = some u) := by
        show _ = _
        rw [HC.out, Nat.sub_self, yae]
       have cP := zwr (u : Int)
       rw [zwq] at cP
       have hno : (u < ll \/ ptN u = false) -> yah (ls s) = none := by
        intro hh
        rw [HP.out, HDR.out, yam, yaf, HL.out]
        simp only [HC3.out]
        rw [if_pos hh]
        rfl
       by_cases hll2 : u < ll
       ·have hld : decide ((u : Int) < (ll : Int)) = true := jT (by omega)
        have HE : Hid (yah (ls s) = none) := jL (hno (.inl hll2))
        clear hno
        go_wp2_with (go_at_call 157; refine (cP _).mono ?_; rintro e w' ⟨rfl, rfl⟩)
        go_ret2
        exact zwj.no HE.out hb
       ·have hld : decide ((u : Int) < (ll : Int)) = false := jF (by omega)
        cases hpt : ptN u with
        | false =>
          rw [hpt] at cP
          have HE : Hid (yah (ls s) = none) := jL (hno (.inr hpt))
          clear hno hpt
          go_wp2_with (go_at_call 157; refine (cP _).mono ?_; rintro e w' ⟨rfl, rfl⟩)
          go_ret2
          exact zwj.no HE.out hb
        | true =>
          rw [hpt] at cP
          have hkj : k + j <= s.size := by omega
          have hkji : (k : Int) + (j : Int) = ((k + j : Nat) : Int) := by omega
          have HP2 : Hid (yah (ls s) = (yah ((ls s).drop (k + j))).map ((acc ++ [u]) ++ ·)) := by
           show _ = _
           have hj : k + 1 + kk = k + j := by omega
           rw [HP.out, HDR.out, yam, yaf, HL.out]
           simp only [HC3.out]
           rw [if_neg (by rw [hpt]; simp; omega)]
           simp only [List.drop_drop, hj]
           cases yah ((ls s).drop (k + j)) with
           | none => rfl
           | some Q => simp
          have hul := zyz hpt
          have HACC : Hid ((acc ++ [u]).map nvI = acc.map nvI ++ [.int .i64 (u : Int)] /\ (acc ++ [u]).length = acc.length + 1) := jL ⟨by simp, by simp⟩
          obtain ⟨q, hq⟩ : ∃ q, q = k + j := ⟨_, rfl⟩
          have hq1 : k < q := by omega
          rw [<- hq] at hkj hkji HP2
          clear hno hpt hq
          go_wp2_with (first | (go_at_call 157; refine (cP _).mono ?_; rintro e w' ⟨rfl, rfl⟩) | (at_builtin; refine zcq wr rfl _ _ 108 rfl w.heap.size 3 i3 (.int .i64 0) 8 zzt hi3 hz0 hz1 hz2 rfl _ (by exact rfl) _ _ _ (by exact rfl) hown (by exact rfl) (by unfold maxLen; omega) (by omega) hb jH ?_; intro v' w' hown' hb' _))
          go_roundg (s.size - q)
          case rel =>
           refine ⟨q, acc ++ [u], by omega, rfl, by go_num, by rw [HACC.out.2]; omega, HP2, ?_, hb'⟩
           rw [HACC.out.1, HACC.out.2]
           exact hown'
          case measure => rw [HG.out]; omega
  ·obtain rfl : k = s.size := by omega
   have hkd : decide ((s.size : Int) < (s.size : Int)) = false := by simp
   have HE : Hid (yah (ls s) = some acc) := by
    show _ = _
    rw [HP.out, zcd, yan]
    simp
   go_wp2
   go_ret2
   exact zwj.yes HE.out hown hb
end

section
open Go.RowKit
set_option maxHeartbeats 16000000
theorem z09 (s : ByteArray) (w : World) (hs : s.size <= 1000000000) :
 Calls Tryz.prog 87 #[.string s] w fun e w' => e = .returned (.string (zbl s)) /\ Below w.heap.size w w' := by
 obtain ⟨i5, hi5, hz0, hz1, hz2⟩ := info_parts z3f
 go_enter Tryz.func87, Tryz.ntmps87
 go_wp2
 go_loopw [3, 4] (fun v i wr => ∃ k : Nat, k <= s.size /\ i = .int .i64 k /\ wr.ownsRow w.heap.size 5 1 v k (((zbk (ls s)).take k).map bv) /\ Below w.heap.size w wr) (fun _ i _ => s.size - (intOf i).toNat)
 case atStart => exact ⟨0, Nat.zero_le _, rfl, World.ownsRow_nil _ _ _ _, Below.refl _ _⟩
 case round =>
  obtain ⟨k, hk, rfl, hown, hb⟩ := hrel
  by_cases hlt : k < s.size
  ·have hnext : Hid ((((zbk (ls s)).take k).map bv) ++ [.int .u8 (zbd (s[k].toNat : Int))] = ((zbk (ls s)).take (k + 1)).map bv) := by
    have hl : k < (zbk (ls s)).length := by rw [zbm, zb4]; exact hlt
    rw [List.take_succ_eq_append_getElem hl, List.map_append]
    simp only [zbk, List.getElem_map, zb8 s k hlt, List.map_cons, List.map_nil, zcf, zbh]
    rfl
   have hbl := zce s[k]
   by_cases hu : zbb (s[k].toNat : Int) = true
   ·have hlo : Hid (zbd (s[k].toNat : Int) = (s[k].toNat : Int) + 32) := by show _ = _; simp [zbd, hu]
    have h65 : (65 : Int) <= (s[k].toNat : Int) := by simp [zbb] at hu; omega
    have h90 : (s[k].toNat : Int) <= 90 := by simp [zbb] at hu; omega
    clear hu
    go_wp2_with (at_builtin; refine zcq _ rfl _ _ 72 rfl w.heap.size 5 i5 (.int .u8 0) 1 z3c hi5 hz0 hz1 hz2 rfl _ (by exact rfl) _ _ _ (by exact rfl) hown (by exact rfl) (by unfold maxLen; omega) (by omega) hb jH ?_; intro v' w' hown' hb' _)
    go_roundw
    case rel => exact ⟨k + 1, by omega, by go_num, by rw [<- hnext.out, hlo.out]; exact hown', hb'⟩
    case measure => simp [intOf]; omega
   ·have hlo : Hid (zbd (s[k].toNat : Int) = (s[k].toNat : Int)) := by show _ = _; simp [zbd, hu]
    have hnu : ¬ ((65 : Int) <= (s[k].toNat : Int) /\ (s[k].toNat : Int) <= 90) := by
     intro hc
     exact hu (by simp [zbb]; omega)
    clear hu
    by_cases h65 : (65 : Int) <= (s[k].toNat : Int)
    ·have h90 : ¬ (s[k].toNat : Int) <= 90 := fun hc => hnu ⟨h65, hc⟩
     clear hnu
     go_wp2_with (at_builtin; refine zcq _ rfl _ _ 72 rfl w.heap.size 5 i5 (.int .u8 0) 1 z3c hi5 hz0 hz1 hz2 rfl _ (by exact rfl) _ _ _ (by exact rfl) hown (by exact rfl) (by unfold maxLen; omega) (by omega) hb jH ?_; intro v' w' hown' hb' _)
     go_roundw
     case rel => exact ⟨k + 1, by omega, by go_num, by rw [<- hnext.out, hlo.out]; exact hown', hb'⟩
     case measure => simp [intOf]; omega
    ·clear hnu
     go_wp2_with (at_builtin; refine zcq _ rfl _ _ 72 rfl w.heap.size 5 i5 (.int .u8 0) 1 z3c hi5 hz0 hz1 hz2 rfl _ (by exact rfl) _ _ _ (by exact rfl) hown (by exact rfl) (by unfold maxLen; omega) (by omega) hb jH ?_; intro v' w' hown' hb' _)
     go_roundw
     case rel => exact ⟨k + 1, by omega, by go_num, by rw [<- hnext.out, hlo.out]; exact hown', hb'⟩
     case measure => simp [intOf]; omega
  ·obtain rfl : k = s.size := by omega
   have hall : Hid (((zbk (ls s)).take s.size) = zbk (ls s)) := by
    show _ = _
    rw [List.take_of_length_le (by rw [zbm, zb4]; exact jH)]
   rw [hall.out] at hown
   have hconv := z3h wr _ _ _ _ hown
   go_wp2
   go_ret
   exact ⟨rfl, hb⟩
end

section
open Go.RowKit
set_option maxHeartbeats 16000000
set_option maxRecDepth 20000 in
theorem zty (s : ByteArray) (w : World) (hs : s.size <= 1000000000) :
 Calls Tryz.prog 96 #[.string s] w fun e w' => e = .returned (.bool (zr7 (ls s))) /\ Below w.heap.size w w' := by
 by_cases h0 : s.size = 0
 ·have hlab := jL (zsi h0)
  have he : s.toList.isEmpty = true := by rw [zb3]; exact List.isEmpty_iff.2 (List.eq_nil_of_length_eq_zero (by rw [zb4]; exact h0))
  go_enter Tryz.func96, Tryz.ntmps96
  go_wp2
  go_ret
  exact ⟨zbx hlab.out.symm, Below.refl _ _⟩
 ·have he : s.toList.isEmpty = false := by rw [zb3]; exact zsh h0
  by_cases h1 : 63 < s.size
  ·have hlab := jL (zsj h1)
   have hd : decide ((63 : Int) < (s.size : Int)) = true := jT (by omega)
   go_enter Tryz.func96, Tryz.ntmps96
   go_wp2
   go_ret
   exact ⟨zbx hlab.out.symm, Below.refl _ _⟩
  ·have hd : decide ((63 : Int) < (s.size : Int)) = false := jF (by omega)
   have hz0 : (0 : Int) < (s.size : Int) := by omega
   have hf0 : 0 < s.size := by omega
   obtain ⟨y0, hy0⟩ : ∃ y0 : Nat, y0 = (s[0]'hf0).toNat := ⟨_, rfl⟩
   obtain ⟨y1, hy1⟩ : ∃ y1 : Nat, y1 = (s[s.size - 1]'(by omega)).toNat := ⟨_, rfl⟩
   have hends := jL (zsm hf0 hy0 hy1)
   by_cases h2 : y0 = 45
   ·have hlab := jL (hends.out.1 (.inl h2))
    have e0 : (((s[0]'hf0).toNat : Int) == 45) = true := by rw [<- hy0, h2]; rfl
    clear hy0 hy1
    go_enter Tryz.func96, Tryz.ntmps96
    go_wp2
    go_ret
    exact ⟨zbx hlab.out.symm, Below.refl _ _⟩
   ·have e0 : (((s[0]'hf0).toNat : Int) == 45) = false := by rw [<- hy0]; simp; omega
    have hsub : (s.size : Int) - 1 = ((s.size - 1 : Nat) : Int) := by omega
    by_cases h3 : y1 = 45
    ·have hlab := jL (hends.out.1 (.inr h3))
     have e1 : (((s[s.size - 1]'(by omega)).toNat : Int) == 45) = true := by rw [<- hy1, h3]; rfl
     clear hy0 hy1
     go_enter Tryz.func96, Tryz.ntmps96
     go_wp2
     go_ret
     exact ⟨zbx hlab.out.symm, Below.refl _ _⟩
    ·have hlab := jL (hends.out.2 ⟨h2, h3, by omega⟩)
     have e1 : (((s[s.size - 1]'(by omega)).toNat : Int) == 45) = false := by rw [<- hy1]; simp; omega
     clear hy0 hy1 hends
     rw [hlab.out]
     have HS : Hid (s.size <= 63) := by show _ <= _; omega
     obtain ⟨R, hR⟩ : ∃ R, R = zsk (ls s) := ⟨_, rfl⟩
     have HR := jL hR
     rw [<- hR]
     clear hR hlab
     go_enter Tryz.func96, Tryz.ntmps96
     go_wp2
     clear e0 e1 h2 h3 hsub he
     go_loop [3] (fun i => ∃ k : Nat, k <= s.size /\ i = .int .i64 k /\ Hid (okK (ls s) k = true)) (fun i => s.size - (intOf i).toNat)
     case atStart => exact ⟨0, Nat.zero_le _, rfl, rfl⟩
     case round =>
      obtain ⟨k, hk, rfl, HK⟩ := hrel
      have hs63 : s.size <= 63 := HS.out
      by_cases hlt : k < s.size
      ·have hkl : k < (ls s).length := by rw [zb4]; exact hlt
       have HG := jL (zsp (ls s) k hkl)
       have HB : Hid (okN (ls s)[k].toNat = false -> R = false) := fun hb => by rw [HR.out]; exact zsq k hkl hb
       rw [zb8 s k hlt hkl] at HG HB
       have hkd : decide ((k : Int) < (s.size : Int)) = true := jT (by omega)
       have hyl := zce s[k]
       go_wp2
       all_goals
        first
        | (go_ret
           have hno : okN s[k].toNat = false := by
            rw [zso]
            first
            | omega
            | (have h := ‹(_ /\ _) /\ _›; simp at h; first | done | omega)
            | (have h := ‹_ /\ _›; simp at h; first | done | omega)
           exact ⟨zbx (HB.out hno).symm, Below.refl _ _⟩)
        | (have hyes : okN s[k].toNat = true := by
            rw [zsn]
            first
            | omega
            | (have h := ‹(_ \/ _) \/ _›; simp at h; first | done | omega)
            | (have h := ‹_ \/ _›; simp at h; first | done | omega)
           have HK2 : Hid (okK (ls s) (k + 1) = true) := by show _ = _; rw [HG.out, HK.out, hyes]; rfl
           clear hyes
           go_round
           case rel => exact ⟨k + 1, by omega, by go_num, HK2⟩
           case measure => simp [intOf]; omega)
      ·obtain rfl : k = s.size := by omega
       have hkd : decide ((s.size : Int) < (s.size : Int)) = false := by simp
       have HR2 : Hid (R = (decide ((ls s).take 4 ≠ xnL) || zr5 ((ls s).drop 4))) := by
        show _ = _
        rw [HR.out]
        exact zsr (by rw [zb4]; exact HK.out)
       by_cases h4 : s.size < 4
       ·have hd4 : decide ((s.size : Int) < 4) = true := jT (by omega)
        have HR3 : Hid (R = true) := by show _ = _; rw [HR2.out, zss (by rw [zb4]; exact h4)]; rfl
        go_wp2
        go_ret
        exact ⟨zbx HR3.out.symm, Below.refl _ _⟩
       ·have hd4 : decide ((s.size : Int) < 4) = false := jF (by omega)
        have h4z : (4 : Int) <= (s.size : Int) := by omega
        have hx : (s.extract 0 4).toList = (ls s).take 4 := by rw [zb3, zb9, List.drop_zero]
        by_cases hxn : (ls s).take 4 = xnL
        ·have q1 : ((s.extract 0 4).toList != [120, 110, 45, 45]) = false := by rw [hx, hxn]; rfl
         have q2 : ((s.extract 0 4).toList == [120, 110, 45, 45]) = true := by rw [hx, hxn]; rfl
         have c1 := ztd (s.extract 4 s.size) w
         have hr : Hid (R = zr5 (ls (s.extract 4 s.size))) := by
          show _ = _
          rw [HR2.out, jF (by simp [hxn]), Bool.false_or, zb9, List.take_of_length_le (by rw [List.length_drop, zb4]; exact jH)]
         rw [<- hr.out] at c1
         clear hx hxn
         go_wp2_with (go_at_call 126; refine c1.mono ?_; rintro e w' ⟨rfl, hb'⟩)
         go_ret
         exact ⟨rfl, hb'⟩
        ·have q1 : ((s.extract 0 4).toList != [120, 110, 45, 45]) = true := by rw [hx, bne_iff_ne]; exact hxn
         have q2 : ((s.extract 0 4).toList == [120, 110, 45, 45]) = false := by rw [hx]; exact beq_false_of_ne hxn
         have HR3 : Hid (R = true) := by show _ = _; rw [HR2.out, jT hxn]; rfl
         clear hx hxn
         go_wp2
         go_ret
         exact ⟨zbx HR3.out.symm, Below.refl _ _⟩
theorem ztz {l : List UInt8} (h : zr7 l = false) : toU l = (14, []) := by unfold toU; rw [if_neg (by rw [h]; simp)]
theorem zt0 {l : List UInt8} {p : List Nat} (h : zr7 l = true) (hx : l.take 4 = xnL) (hd : zxp (l.drop 4) = .ok p) : toU l = (0, yaj p) := by
 unfold toU zr9 zr9.puV'
 rw [if_pos h, if_pos hx, hd]
theorem zt1 {l : List UInt8} (h : zr7 l = true) (hx : ¬ l.take 4 = xnL) : toU l = (0, l) := by
 unfold toU zr9
 rw [if_pos h, if_neg hx]
theorem zt2 {l : List UInt8} (h : yah l = none) : toA l = (4, []) := by unfold toA; rw [h]
theorem zt3 {l : List UInt8} {P : List Nat} (h : yah l = some P) (hl : 256 < P.length) : toA l = (3, []) := by
 unfold toA
 rw [h]
 exact if_pos hl
theorem zt4 {l : List UInt8} {P : List Nat} (h : yah l = some P) (hl : ¬ 256 < P.length) : toA l = if zr7 (zr8 l P) = true then (0, zr8 l P) else (14, []) := by
 unfold toA
 rw [h]
 exact if_neg hl
set_option maxRecDepth 20000 in
theorem zt5 (s : ByteArray) (w : World) (hs : s.size <= 1000000000) :
 Calls Tryz.prog 93 #[.string s] w fun e w' => e = .returned (.tuple #[.string (bs (toA (ls s)).2), .int .i64 ((toA (ls s)).1 : Nat)]) /\ Below w.heap.size w w' := by
 have c1 := zwo s w hs
 unfold zwj at c1
 cases hp : yah (ls s) with
 | none =>
   rw [zt2 hp]
   rw [hp] at c1
   clear hp
   go_enter Tryz.func93, Tryz.ntmps93
   go_wp2_with fail
   refine c1.mono ?_
   rintro e w1 ⟨⟨v, rfl, _⟩, hb⟩
   go_wp2
   go_ret2
   exact ⟨rfl, hb⟩
 | some P =>
   obtain ⟨hpt, htx⟩ := yax hp
   have hle := (yaz P).1
   rw [htx, zb4] at hle
   rw [hp] at c1
   by_cases h256 : 256 < P.length
   ·rw [zt3 hp h256]
    have hd : decide ((256 : Int) < (P.length : Int)) = true := jT (by omega)
    clear hp hpt htx
    go_enter Tryz.func93, Tryz.ntmps93
    go_wp2_with fail
    refine c1.mono ?_
    rintro e w1 ⟨⟨v, rfl, hown⟩, hb⟩
    obtain ⟨A1, k1, rfl, hh, _⟩ := Has.of_own hown
    rw [show (some P).getD [] = P from rfl] at *
    rw [show (some P).isSome = true from rfl]
    go_wp2
    go_ret2
    exact ⟨rfl, hb⟩
   ·rw [zt4 hp h256]
    have hd : decide ((256 : Int) < (P.length : Int)) = false := jF (by omega)
    have cL := fun W => z09 s W hs
    by_cases hlt : P.length < s.size
    ·have hlN : decide ((P.length : Int) < (s.size : Int)) = true := jT (by omega)
     have hsz : (zbl s).size = s.size := by rw [<- zb4, show ls (zbl s) = zbk (ls s) from rfl, zbm, zb4]
     have c2 := fun W => zwo (zbl s) W (by omega)
     unfold zwj at c2
     rw [show ls (zbl s) = zbk (ls s) from rfl, yba, hp, Option.map_some, show (some (P.map ya3)).getD [] = P.map ya3 from rfl, show (some (P.map ya3)).isSome = true from rfl] at c2
     have hpt2 : ∀ x ∈ P.map ya3, ptN x = true := by
      intro x hx
      obtain ⟨y, hy, rfl⟩ := List.mem_map.1 hx
      exact ya7 (hpt y hy)
     have eO : zr8 (ls s) P = xnL ++ zxs (P.map ya3) := by unfold zr8; rw [if_pos (by rw [zb4]; exact hlt)]
     obtain ⟨Q, hQ⟩ : ∃ Q, Q = P.map ya3 := ⟨_, rfl⟩
     have hQl : Q.length = P.length := by rw [hQ, List.length_map]
     rw [<- hQ] at c2 hpt2 eO
     have cE := fun A c B W hA hB => zw7 (Q.map (fun n : Nat => (n : Int))) A Q.length c B W hA hB
     rw [zyb hpt2 (by omega)] at cE
     obtain ⟨X, hX⟩ : ∃ X, X = bs (zxs Q) := ⟨_, rfl⟩
     rw [show ((0 : Nat), zxs Q).2 = zxs Q from rfl, show (((0 : Nat), zxs Q).1 : Nat) = 0 from rfl, <- hX] at cE
     have hXl : X.size <= 4000 := by
      have := zx3 hpt2 (by omega)
      rw [hX, zb5]
      omega
     have hY : ∀ Y : ByteArray, Y = (⟨#[120, 110, 45, 45]⟩ : ByteArray) ++ X -> Y.size <= 1000000000 /\ ls Y = zr8 (ls s) P := by
      intro Y hY
      refine ⟨?_, ?_⟩
      ·rw [hY, ByteArray.size_append, show (⟨#[120, 110, 45, 45]⟩ : ByteArray).size = 4 from rfl]; omega
      ·rw [hY, zb6, hX, eO]; rfl
     obtain ⟨hYs, eY⟩ := hY _ rfl
     have c4 := fun W => zty _ W hYs
     rw [eY] at c4
     have HB : Hid (bs (zr8 (ls s) P) = (⟨#[120, 110, 45, 45]⟩ : ByteArray) ++ X) := by show _ = _; rw [<- eY, zb1]
     obtain ⟨O, hO⟩ : ∃ O, O = zr8 (ls s) P := ⟨_, rfl⟩
     rw [<- hO] at c4 HB ⊢
     rw [show (some P).getD [] = P from rfl, show (some P).isSome = true from rfl] at c1
     obtain ⟨q, hq⟩ : ∃ q, q = zr7 O := ⟨_, rfl⟩
     rw [<- hq] at c4 ⊢
     clear hp hpt htx hX hY eY hO hq eO hQ hQl hpt2 hsz hs hYs hle
     have hfin : (if q = true then ((0 : Nat), O) else (14, [])) = (if q = true then 0 else 14, if q = true then O else []) := by cases q <;> rfl
     rw [hfin]
     have HF : Hid (bs (if q = true then O else []) = if q = true then (⟨#[120, 110, 45, 45]⟩ : ByteArray) ++ X else ByteArray.mk #[]) := by
      show _ = _
      cases q
      ·rfl
      ·exact HB.out
     rw [HF.out]
     clear HF HB hfin
     go_enter Tryz.func93, Tryz.ntmps93
     go_wp2_with fail
     refine c1.mono ?_
     rintro e w1 ⟨⟨v, rfl, hown⟩, hb⟩
     obtain ⟨A1, k1, rfl, hh, _⟩ := Has.of_own hown
     clear hh hown
     go_wp2_with fail
     refine (cL _).mono ?_
     rintro e w2 ⟨rfl, hb2⟩
     replace hb2 := hb.trans (hb2.mono hb.size)
     go_wp2_with fail
     refine (c2 _).mono ?_
     rintro e w3 ⟨⟨v3, rfl, hown3⟩, hb3⟩
     rw [zxg] at hown3
     obtain ⟨A3, k3, rfl, hh3, _⟩ := Has.of_own hown3
     replace hb3 := hb2.trans (hb3.mono hb2.size)
     clear hown3
     go_wp2_with fail
     refine (cE A3 k3 _ w3 hh3 jH).mono ?_
     rintro e w4 ⟨rfl, hb4⟩
     replace hb4 := hb3.trans (hb4.mono hb3.size)
     cases q
     all_goals
      go_wp2_with fail
      refine (c4 _).mono ?_
      rintro e w5 ⟨rfl, hb5⟩
      replace hb5 := hb4.trans (hb5.mono hb4.size)
      go_wp2
      go_ret2
      exact ⟨rfl, hb5⟩
    ·have hlN : decide ((P.length : Int) < (s.size : Int)) = false := jF (by omega)
     have eO : zr8 (ls s) P = zbk (ls s) := by unfold zr8; rw [if_neg (by rw [zb4]; exact hlt)]
     rw [eO]
     have c4 := fun W => zty (zbl s) W (by rw [<- zb4, show ls (zbl s) = zbk (ls s) from rfl, zbm, zb4]; exact hs)
     rw [show ls (zbl s) = zbk (ls s) from rfl] at c4
     have HB : Hid (bs (zbk (ls s)) = zbl s) := rfl
     rw [show (some P).getD [] = P from rfl, show (some P).isSome = true from rfl] at c1
     obtain ⟨O, hO⟩ : ∃ O, O = zbk (ls s) := ⟨_, rfl⟩
     rw [<- hO] at c4 HB ⊢
     obtain ⟨q, hq⟩ : ∃ q, q = zr7 O := ⟨_, rfl⟩
     rw [<- hq] at c4 ⊢
     clear hp hpt htx hO hq eO hle
     have hfin : (if q = true then ((0 : Nat), O) else (14, [])) = (if q = true then 0 else 14, if q = true then O else []) := by cases q <;> rfl
     rw [hfin]
     have HF : Hid (bs (if q = true then O else []) = if q = true then zbl s else ByteArray.mk #[]) := by
      show _ = _
      cases q
      ·rfl
      ·exact HB.out
     rw [HF.out]
     clear HF HB hfin
     go_enter Tryz.func93, Tryz.ntmps93
     go_wp2_with fail
     refine c1.mono ?_
     rintro e w1 ⟨⟨v, rfl, hown⟩, hb⟩
     obtain ⟨A1, k1, rfl, hh, _⟩ := Has.of_own hown
     clear hh hown
     go_wp2_with fail
     refine (cL _).mono ?_
     rintro e w2 ⟨rfl, hb2⟩
     replace hb2 := hb.trans (hb2.mono hb.size)
     cases q
     all_goals
      go_wp2_with fail
      refine (c4 _).mono ?_
      rintro e w5 ⟨rfl, hb5⟩
      replace hb5 := hb2.trans (hb5.mono hb2.size)
      go_wp2
      go_ret2
      exact ⟨rfl, hb5⟩
end

section
open Go.RowKit Go.Shelf
set_option maxHeartbeats 16000000
end

section
open Go.RowKit Go.Shelf
set_option maxHeartbeats 16000000
end

section
open Go.RowKit Go.Shelf
set_option maxHeartbeats 16000000
end

section
open Go.RowKit Go.Shelf
set_option maxHeartbeats 16000000
set_option maxRecDepth 20000 in
theorem zum (hVal : zfp 43) (hCov : zd0 44) (h : Hv) (w : World) (hw : h.Wf) (hn : h.name.length <= 1000000000) :
 Calls Tryz.prog 25 #[h.val] w fun e w' => e = .returned (.bool (zu8 h)) /\ Below w.heap.size w w' := by
 cases hval : zhn h with
 | false =>
   have e9 : zu8 h = false := by unfold zu8; rw [hval]; rfl
   rw [e9]
   obtain ⟨k, n, v, g⟩ := h
   obtain ⟨x0, x1, x2, x3, x4, x5, x6, x7, rfl⟩ := zfu g hw.2.1
   have c1 := fun W => hVal ⟨k, n, v, [x0, x1, x2, x3, x4, x5, x6, x7]⟩ W hw hn
   rw [hval] at c1
   have eV : (Hv.mk k n v [x0, x1, x2, x3, x4, x5, x6, x7]).val = .agg #[.int .i64 k, .string (bs n), .int .u32 (v : Nat), .int .u16 (x0 : Nat), .int .u16 (x1 : Nat), .int .u16 (x2 : Nat), .int .u16 (x3 : Nat), .int .u16 (x4 : Nat), .int .u16 (x5 : Nat), .int .u16 (x6 : Nat), .int .u16 (x7 : Nat)] := rfl
   rw [eV] at c1 ⊢
   have hr : zgo (w.alloc (.cells #[.int .i64 k, .string (bs n), .int .u32 (v : Nat), .int .u16 (x0 : Nat), .int .u16 (x1 : Nat), .int .u16 (x2 : Nat), .int .u16 (x3 : Nat), .int .u16 (x4 : Nat), .int .u16 (x5 : Nat), .int .u16 (x6 : Nat), .int .u16 (x7 : Nat)] 26)) w.heap.size _ := zat w _ _
   generalize bs n = N at *
   clear eV hval hw hn e9
   go_enter Tryz.func25, Tryz.ntmps25
   go_wp2_with (refine zgq rfl _ rfl w.heap.size (by exact rfl) _ hr rfl ?_)
   refine (c1 _).mono ?_
   rintro e w1 ⟨rfl, hb1⟩
   have hr1 := Row.below hr hb1 hr.lt
   replace hb1 := ((Below.refl _ w).alloc jH _).trans (hb1.mono (by simp))
   go_wp2
   go_ret
   exact ⟨rfl, hb1⟩
 | true =>
   rcases zib hval with ⟨_, e⟩ | e | e
   ·obtain ⟨n, hn1⟩ : ∃ n, n = h.name := ⟨_, rfl⟩
    rw [<- hn1] at e
    subst e
    have c1 := fun W => hVal (hvD n) W hw hn
    have e9 : zu8 (hvD n) = zin zu3 n := by unfold zu8; rw [hval]; rfl
    rw [e9]
    rw [hval] at c1
    have eV : (hvD n).val = .agg #[.int .i64 1, .string (bs n), .int .u32 0, .int .u16 0, .int .u16 0, .int .u16 0, .int .u16 0, .int .u16 0, .int .u16 0, .int .u16 0, .int .u16 0] := rfl
    rw [eV] at c1 ⊢
    have hr : zgo (w.alloc (.cells #[.int .i64 1, .string (bs n), .int .u32 0, .int .u16 0, .int .u16 0, .int .u16 0, .int .u16 0, .int .u16 0, .int .u16 0, .int .u16 0, .int .u16 0] 26)) w.heap.size _ := zat w _ _
    have c2 := fun W => hCov ⟨#[108, 111, 99, 97, 108, 104, 111, 115, 116]⟩ (bs n) W (by decide) (by rw [zb5]; exact hn)
    simp only [show ls ⟨#[108, 111, 99, 97, 108, 104, 111, 115, 116]⟩ = zu3 from rfl, zb0] at c2
    clear hn1 e9
    generalize zin zu3 n = q at *
    generalize bs n = N at *
    clear eV hval hw hn
    go_enter Tryz.func25, Tryz.ntmps25
    go_wp2_with (refine zgq rfl _ rfl w.heap.size (by exact rfl) _ hr rfl ?_)
    refine (c1 _).mono ?_
    rintro e w1 ⟨rfl, hb1⟩
    have hr1 := Row.below hr hb1 hr.lt
    replace hb1 := ((Below.refl _ w).alloc jH _).trans (hb1.mono (by simp))
    have p0 := Row.cell hr1 (k := 0) (by simp)
    have p1 := Row.cell hr1 (k := 1) (by simp)
    simp only [List.getElem_toArray, List.getElem_cons_zero, List.getElem_cons_succ] at p0 p1
    go_wp2_with fail
    refine (c2 _).mono ?_
    rintro e w2 ⟨rfl, hb2⟩
    go_wp2
    go_ret
    exact ⟨rfl, hb1.trans (hb2.mono hb1.size)⟩
   ·obtain ⟨v, hv1⟩ : ∃ v, v = h.v4 := ⟨_, rfl⟩
    rw [<- hv1] at e
    subst e
    have c1 := fun W => hVal (hv4 v) W hw hn
    have e9 : zu8 (hv4 v) = decide ((v : Int) / 16777216 = 127) := by
     unfold zu8
     rw [hval]
     show (true && (v / 16777216 == 127)) = _
     rw [Bool.true_and, Bool.eq_iff_iff]
     simp
     omega
    rw [e9]
    rw [hval] at c1
    have eV : (hv4 v).val = .agg #[.int .i64 2, .string ⟨#[]⟩, .int .u32 (v : Nat), .int .u16 0, .int .u16 0, .int .u16 0, .int .u16 0, .int .u16 0, .int .u16 0, .int .u16 0, .int .u16 0] := rfl
    rw [eV] at c1 ⊢
    have hr : zgo (w.alloc (.cells #[.int .i64 2, .string ⟨#[]⟩, .int .u32 (v : Nat), .int .u16 0, .int .u16 0, .int .u16 0, .int .u16 0, .int .u16 0, .int .u16 0, .int .u16 0, .int .u16 0] 26)) w.heap.size _ := zat w _ _
    have hv9 : v < 4294967296 := hw.1
    clear eV hval hw hn hv1 e9
    go_enter Tryz.func25, Tryz.ntmps25
    go_wp2_with (refine zgq rfl _ rfl w.heap.size (by exact rfl) _ hr rfl ?_)
    refine (c1 _).mono ?_
    rintro e w1 ⟨rfl, hb1⟩
    have hr1 := Row.below hr hb1 hr.lt
    replace hb1 := ((Below.refl _ w).alloc jH _).trans (hb1.mono (by simp))
    have p0 := Row.cell hr1 (k := 0) (by simp)
    have p2 := Row.cell hr1 (k := 2) (by simp)
    simp only [List.getElem_toArray, List.getElem_cons_zero, List.getElem_cons_succ] at p0 p2
    go_wp2
    go_ret
    exact ⟨zbx (by first | rfl | (rw [Bool.eq_iff_iff]; simp)), hb1⟩
   ·obtain ⟨g, hg1⟩ : ∃ g, g = h.v6 := ⟨_, rfl⟩
    rw [<- hg1] at e
    subst e
    have hg8 : g.length = 8 := hw.2.1
    have heq := zki g [0, 0, 0, 0, 0, 0, 0, 1] hg8 rfl
    obtain ⟨x0, x1, x2, x3, x4, x5, x6, x7, rfl⟩ := zfu g hg8
    have c1 := fun W => hVal (hv6 [x0, x1, x2, x3, x4, x5, x6, x7]) W hw hn
    have e9 : zu8 (hv6 [x0, x1, x2, x3, x4, x5, x6, x7]) = decide ([x0, x1, x2, x3, x4, x5, x6, x7] = [0, 0, 0, 0, 0, 0, 0, 1]) := by
     unfold zu8
     rw [hval]
     show (true && ([x0, x1, x2, x3, x4, x5, x6, x7] == [0, 0, 0, 0, 0, 0, 0, 1])) = _
     rw [Bool.true_and, Bool.eq_iff_iff]
     simp
    rw [e9]
    rw [hval] at c1
    have eV : (hv6 [x0, x1, x2, x3, x4, x5, x6, x7]).val = .agg #[.int .i64 3, .string ⟨#[]⟩, .int .u32 0, .int .u16 (x0 : Nat), .int .u16 (x1 : Nat), .int .u16 (x2 : Nat), .int .u16 (x3 : Nat), .int .u16 (x4 : Nat), .int .u16 (x5 : Nat), .int .u16 (x6 : Nat), .int .u16 (x7 : Nat)] := rfl
    rw [eV] at c1 ⊢
    rw [show av [x0, x1, x2, x3, x4, x5, x6, x7] = #[.int .u16 (x0 : Nat), .int .u16 (x1 : Nat), .int .u16 (x2 : Nat), .int .u16 (x3 : Nat), .int .u16 (x4 : Nat), .int .u16 (x5 : Nat), .int .u16 (x6 : Nat), .int .u16 (x7 : Nat)] from rfl, show av [0, 0, 0, 0, 0, 0, 0, 1] = #[.int .u16 0, .int .u16 0, .int .u16 0, .int .u16 0, .int .u16 0, .int .u16 0, .int .u16 0, .int .u16 1] from rfl] at heq
    have hr : zgo (w.alloc (.cells #[.int .i64 3, .string ⟨#[]⟩, .int .u32 0, .int .u16 (x0 : Nat), .int .u16 (x1 : Nat), .int .u16 (x2 : Nat), .int .u16 (x3 : Nat), .int .u16 (x4 : Nat), .int .u16 (x5 : Nat), .int .u16 (x6 : Nat), .int .u16 (x7 : Nat)] 26)) w.heap.size _ := zat w _ _
    generalize decide ([x0, x1, x2, x3, x4, x5, x6, x7] = [0, 0, 0, 0, 0, 0, 0, 1]) = q at *
    clear eV hval hw hn hg1 hg8 e9
    go_enter Tryz.func25, Tryz.ntmps25
    go_wp2_with (refine zgq rfl _ rfl w.heap.size (by exact rfl) _ hr rfl ?_)
    refine (c1 _).mono ?_
    rintro e w1 ⟨rfl, hb1⟩
    have hr1 := Row.below hr hb1 hr.lt
    replace hb1 := ((Below.refl _ w).alloc jH _).trans (hb1.mono (by simp))
    obtain ⟨p0, p1, p2, p3, p4, p5, p6, p7, p8, p9, p10⟩ := zfq (k := 3) (N := ⟨#[]⟩) (v := 0) hr1
    go_wp2
    go_ret
    exact ⟨rfl, hb1⟩
end

end Go.Proofs.YtekaljeicfjkjaaGreatDoor
