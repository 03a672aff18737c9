/-
Contract of package punycode's Encode, of any numbers.
Contracts of package label's functions properPoints, ToUnicode, Valid, ToASCII.
Contracts of package label's ToUnicode, Valid and ToASCII.
What the program's functions do, as the walks of the statements on hosts ask it.
What the statements' listed variables give: the library's tables and the error of a text that is no number.
What the statements' listed variables give for URLs: also the error of a number out of range.
-/
import Derived.Test.YtekaljeicfjkjaaGreatDoorK29
import Derived.Test.YtekaljeicfjkjaaGreatDoorK43
import Derived.Test.YtekaljeicfjkjaaGreatDoorK44
import Derived.Test.YtekaljeicfjkjaaGreatDoorK14
import Derived.Deep.LoopGhost
import Derived.BigQuiet
import Derived.Deep.CutRange
import Derived.Deep.CutBlock
import Derived.Test.YtekaljeicfjkjaaGreatDoorK42
import Derived.Test.YtekaljeicfjkjaaGreatDoorK32
import Derived.Test.YtekaljeicfjkjaaGreatDoorK25
import Derived.Test.YtekaljeicfjkjaaGreatDoorK46
import Derived.Test.YtekaljeicfjkjaaGreatDoorK16
import Derived.Test.YtekaljeicfjkjaaGreatDoorK23
import Derived.Test.YtekaljeicfjkjaaGreatDoorK39
import Derived.Test.YtekaljeicfjkjaaGreatDoorK41
import Derived.Test.YtekaljeicfjkjaaGreatDoorShelf
import Derived.PinnedBridge
import Derived.Lib.LaidU8
import Derived.Lib.LaidTab
import Derived.Lib.TrailingZeros
import Derived.MakeChecks
import Derived.Lay
import Derived.LaidOnce
import Derived.Stop.LaidErr
namespace Go.Proofs.YtekaljeicfjkjaaGreatDoor
section
open Go.RowKit
set_option maxHeartbeats 16000000
set_option maxRecDepth 20000 in
theorem z1f (P : List Nat) (hP : ∀ p ∈ P, ptN p = true) (hl : P.length <= 256) (A : Option Addr) (len cap B : Nat) (w : World) (hA : Has w B A len (P.map iv)) (hB : B <= w.heap.size) :
 Calls Tryz.prog 181 #[.slice A len cap] w fun e w' => e = .returned (.tuple #[.string (bs (zyh P)), .int .i64 0]) /\ Below w.heap.size w w' := by
 obtain ⟨i5, hi5, hz0, hz1, hz2⟩ := info_parts z34
 have hlen : len = P.length := by have := hA.1; simpa using this.symm
 subst hlen
 have H := jL hA
 have HP := jL hP
 clear hA hP
 have hd256 : decide ((256 : Int) < (P.length : Int)) = false := jF (by omega)
 go_enter Tryz.func181, Tryz.ntmps181
 go_wp2
 go_loopw [4, 20] (fun v i wr => ∃ (k : Nat) (O : List Nat), k <= P.length /\ i = .int .i64 k /\ Hid (O = zy3 (P.take k)) /\ O.length <= 256 /\ wr.ownsRow w.heap.size 5 1 v O.length ((O.map UInt8.ofNat).map bv) /\ Below w.heap.size w wr) (fun _ i _ => P.length - (intOf i).toNat)
 case atStart => exact ⟨0, [], Nat.zero_le _, rfl, jL rfl, by simp, World.ownsRow_nil _ _ _ _, Below.refl _ _⟩
 case round =>
  obtain ⟨k, O, hk, rfl, HO, hOl, hown, hb⟩ := hrel
  by_cases hlt : k < P.length
  ·obtain ⟨b1, o1, rfl, l1, d1⟩ := H.out.2 (by omega)
   have g1 := zxm H.out hb hB k hlt hlt
   have hkd : decide ((k : Int) < (P.length : Int)) = true := jT (by omega)
   have hpt : ptZ ((P[k] : Nat) : Int) = true := by rw [zxf]; exact HP.out _ (List.getElem_mem hlt)
   have hple : P[k] <= 1114111 := zzo (HP.out _ (List.getElem_mem hlt))
   have c1 := z0t ((P[k] : Nat) : Int)
   have hbt := zxn P k hlt
   have hbl := zxo (P.take (k + 1))
   have hbl2 : (P.take (k + 1)).length <= 256 := by rw [List.length_take]; omega
   obtain ⟨p, hp⟩ : ∃ p, p = P[k] := ⟨_, rfl⟩
   rw [<- hp] at g1 c1 hple hbt hpt
   rw [hpt] at c1
   rw [<- HO.out] at hbt
   clear d1 hp hpt
   by_cases h128 : p < 128
   ·have hd : decide ((p : Int) < 128) = true := jT (by omega)
    rw [if_pos h128] at hbt
    have HBV := jL (zxp h128)
    have HO2 := jL hbt.symm
    rw [hbt, List.length_append, List.length_singleton] at hbl
    clear hbt
    go_wp2_with (first | (go_at_call 202; refine (c1 _).mono ?_; rintro e w' ⟨rfl, rfl⟩) | (at_builtin; refine zcq wr rfl _ _ 72 rfl w.heap.size 5 i5 (.int .u8 0) 1 z31 hi5 hz0 hz1 hz2 rfl _ (by exact rfl) _ _ _ (by exact rfl) hown (by exact rfl) (by unfold maxLen; omega) (by omega) hb jH ?_; intro v' w' hown' hb' _))
    go_roundw
    case rel =>
     refine ⟨k + 1, O ++ [p], by omega, by go_num, HO2, by simp; omega, ?_, hb'⟩
     rw [List.map_append, List.map_append, List.length_append]
     simp only [List.map_cons, List.map_nil, HBV.out, List.length_singleton]
     exact hown'
    case measure => simp [intOf]; omega
   ·have hd : decide ((p : Int) < 128) = false := jF (by omega)
    rw [if_neg h128, List.append_nil] at hbt
    have HO2 := jL hbt.symm
    clear hbt
    go_wp2_with (go_at_call 202; refine (c1 _).mono ?_; rintro e w' ⟨rfl, rfl⟩)
    go_roundw
    case rel => exact ⟨k + 1, O, by omega, by go_num, HO2, by omega, hown, hb⟩
    case measure => simp [intOf]; omega
  ·obtain rfl : k = P.length := by omega
   have hkd : decide ((P.length : Int) < (P.length : Int)) = false := by simp
   have HO2 : Hid (O = zy3 P) := by show _ = _; rw [HO.out, List.take_length]
   clear HO
   obtain ⟨A4, c4, rfl, _, _⟩ := Has.of_own hown
   have hO0 : (zy3 P = []) = (O = []) := by rw [HO2.out]
   go_upto_if 38 with fail
   go_cut [4] from 38 to 41 (fun v wx => ∃ X : List UInt8, Hid (X = zzg P []) /\ X.length <= 257 /\ wx.ownsRow w.heap.size 5 1 v X.length (X.map bv) /\ Below w.heap.size w wx)
   case first =>
    by_cases h0 : O = []
    ·have hd0 : decide ((0 : Int) < (O.length : Int)) = false := by rw [h0]; rfl
     have hdN : ¬ (0 < O.length) := by rw [h0]; simp
     have hdB : decide (0 < O.length) = false := by rw [h0]; rfl
     go_wp2_with fail
     go_meet
     refine ⟨O.map UInt8.ofNat, ?_, by simp; omega, ?_, hb⟩
     ·show _ = _
      rw [zxq, <- HO2.out, if_pos h0, List.append_nil]
     ·rw [List.length_map]
      exact hown
    ·have hdN : 0 < O.length := List.length_pos_iff.2 h0
     have hd0 : decide ((0 : Int) < (O.length : Int)) = true := jT (by omega)
     have hdB : decide (0 < O.length) = true := jT hdN
     go_wp2_with (at_builtin; refine zcq wr rfl _ _ 72 rfl w.heap.size 5 i5 (.int .u8 0) 1 z31 hi5 hz0 hz1 hz2 rfl _ (by exact rfl) _ _ _ (by exact rfl) hown (by exact rfl) (by unfold maxLen; omega) (by omega) hb jH ?_; intro v' w' hown' hb' _)
     go_meet
     refine ⟨O.map UInt8.ofNat ++ [45], ?_, by simp; omega, ?_, hb'⟩
     ·show _ = _
      rw [zxq, <- HO2.out, if_neg h0]
     ·rw [List.map_append, List.length_append, List.length_map]
      exact hown'
   case rest =>
   obtain ⟨X, HX, hXl, hown2, hb2⟩ := hcut
   have hbas : O.length = (zy3 P).length := by rw [HO2.out]
   obtain ⟨bas, hbs⟩ : ∃ bas, bas = O.length := ⟨_, rfl⟩
   rw [<- hbs] at hOl hbas ⊢
   have HBAS := jL hbas
   clear hown hb hO0 HO2 hbs hbas
   go_wp2_with fail
   go_loopg [4, 8, 9, 10, 11] (P.length - bas) (fun g v nn ee bi dn wr => ∃ (D : List Nat) (d0 n0 e0 b0 : Nat) (X : List UInt8), g = P.length - d0 /\ dn = .int .i64 d0 /\ nn = .int .i64 n0 /\ ee = .int .i64 e0 /\ bi = .int .i64 b0 /\ d0 <= 256 /\ n0 <= 1114112 /\ e0 <= 17179869184 /\ b0 <= 1000 /\ X.length <= 3400 /\
    Hid (EncAt P D n0 e0) /\ Hid (d0 = (stP P D).out.length) /\ Hid (b0 = zzh P D) /\ Hid (X = zzg P D) /\ wr.ownsRow w.heap.size 5 1 v X.length (X.map bv) /\ Below w.heap.size w wr)
   case atStart => exact ⟨[], bas, 128, 0, 72, X, rfl, rfl, rfl, rfl, rfl, hOl, by omega, by omega, by omega, by omega, jL (EncAt.first P), HBAS, jL rfl, HX, hown2, hb2⟩
   case round =>
    clear hown2 hb2 HX hXl
    obtain ⟨D, d0, n0, e0, b0, X, hg, rfl, rfl, rfl, rfl, hd0, hn0, he0, hb0, hXl, HE, HD, HBI, HX, hown, hb⟩ := hrel
    have HG := jL hg
    clear hg
    by_cases hlt0 : d0 < P.length
    ·have hdl : decide ((d0 : Int) < (P.length : Int)) = true := jT (by omega)
     have hrnd := HE.out.round HP.out (by rw [<- HD.out]; exact hlt0)
     have cS := z09 n0 hn0 P HP.out hl A cap B w wr H.out hb hB
     obtain ⟨m, hm⟩ : ∃ m, m = zy1 n0 P := ⟨_, rfl⟩
     rw [<- hm, <- HD.out] at hrnd
     rw [<- hm] at cS
     obtain ⟨hnm, hm11, hmem, hR⟩ := hrnd
     rw [Nat.min_eq_right hm11] at cS
     have HMEM := jL hmem
     obtain ⟨e1, he1⟩ : ∃ e1, e1 = e0 + (m - n0) * (d0 + 1) := ⟨_, rfl⟩
     rw [<- he1] at hR
     have hmul : ((m : Int) - (n0 : Int)) * ((d0 : Int) + 1) = (((m - n0) * (d0 + 1) : Nat) : Int) := by
      rw [Int.natCast_mul, Int.natCast_sub hnm, Int.natCast_add]
      rfl
     have hmb : (m - n0) * (d0 + 1) <= 1114111 * 257 := Nat.mul_le_mul (by omega) (by omega)
     have hm0 : 0 <= ((m : Int) - (n0 : Int)) * ((d0 : Int) + 1) := by omega
     have hm1 : ((m : Int) - (n0 : Int)) * ((d0 : Int) + 1) <= 286326527 := by omega
     have hsum : (e0 : Int) + ((m : Int) - (n0 : Int)) * ((d0 : Int) + 1) = (e1 : Int) := by omega
     have HSUM := jL hsum
     have he1b := hR.small hl
     have HR := jL hR
     clear hmul hmb hsum he1 hR hm hmem
     go_wp2_with fail
     refine cS.mono ?_
     rintro e w' ⟨rfl, rfl⟩
     go_wp2_with fail
     obtain ⟨go2, rfl⟩ : ∃ go2 : Nat, go2 = gk := ⟨_, rfl⟩
     go_loopg [4, 9, 10, 11, 61] P.length (fun g v ee bi dn i wr => ∃ (k : Nat) (D : List Nat) (d1 e1 b1 : Nat) (X : List UInt8), k <= P.length /\ g = P.length - k /\ i = .int .i64 k /\ dn = .int .i64 d1 /\ ee = .int .i64 e1 /\ bi = .int .i64 b1 /\ d1 <= 256 /\ e1 <= 17179869184 /\ b1 <= 1000 /\ X.length <= 3400 /\
      Hid (RndAt P D (P.take k) (P.drop k) m e1) /\ Hid (d1 = (stP P D).out.length) /\ Hid (b1 = zzh P D) /\ Hid (X = zzg P D) /\ Hid (d0 < d1 + ((P.drop k).filter (fun x => decide (x = m))).length) /\ wr.ownsRow w.heap.size 5 1 v X.length (X.map bv) /\ Below w.heap.size w wr)
     case atStart =>
      refine ⟨0, D, d0, e1, b0, X, Nat.zero_le _, rfl, rfl, rfl, congrArg (Value.int .i64) HSUM.out, rfl, hd0, he1b, hb0, hXl, ?_, HD, HBI, HX, ?_, hown, hb⟩
      ·show RndAt _ _ _ _ _ _
       rw [List.drop_zero, List.take_zero]
       exact HR.out
      ·show _ < _
       rw [List.drop_zero]
       have : 0 < (P.filter (fun x => decide (x = m))).length := by
        rw [<- List.countP_eq_length_filter, List.countP_pos_iff]
        exact ⟨m, HMEM.out, by simp⟩
       omega
     case round =>
      clear hown hb HX hXl
      obtain ⟨k, D, d1, e1, b1, X, hk, hg4, rfl, rfl, rfl, rfl, hd1, he1, hb1, hXl, HR, HD1, HB1, HX, HCNT, hown, hb⟩ := hrel
      have HG4 := jL hg4
      clear hg4
      by_cases hlt4 : k < P.length
      ·obtain ⟨b', o1, rfl, l1, dd1⟩ := H.out.2 (by omega)
       have g1 := zxm H.out hb hB k hlt4 hlt4
       have hple : P[k] <= 1114111 := zzo (HP.out _ (List.getElem_mem hlt4))
       have hdr : P.drop k = P[k] :: P.drop (k + 1) := List.drop_eq_getElem_cons hlt4
       have htk : P.take (k + 1) = P.take k ++ [P[k]] := List.take_succ_eq_append_getElem hlt4
       obtain ⟨p, hp⟩ : ∃ p, p = P[k] := ⟨_, rfl⟩
       rw [<- hp] at g1 hple hdr htk
       have hkd : decide ((k : Int) < (P.length : Int)) = true := jT (by omega)
       have hR2 := HR.out
       rw [hdr] at hR2
       have hcnt := HCNT.out
       rw [hdr] at hcnt
       clear dd1 hp
       by_cases hpm : p < m
       ·have hpd : decide ((p : Int) < (m : Int)) = true := jT (by omega)
        have hpN : decide (p < m) = true := jT hpm
        have hR3 := hR2.skip hpm
        rw [<- htk] at hR3
        have he3 := hR3.small hl
        have HR3 := jL hR3
        have HC3 : Hid (d0 < d1 + ((P.drop (k + 1)).filter (fun x => decide (x = m))).length) := by
         show _ < _
         rw [List.filter_cons_of_neg (by simp; omega)] at hcnt
         exact hcnt
        clear hR2 hR3 hcnt hdr htk
        go_wp2
        go_roundg (P.length - (k + 1))
        case rel => exact ⟨k + 1, D, d1, e1 + 1, b1, X, by omega, rfl, by go_num, rfl, by go_num, rfl, hd1, he3, hb1, hXl, HR3, HD1, HB1, HX, HC3, hown, hb⟩
        case measure => rw [HG4.out]; omega
       ·by_cases hpe : p = m
        ·subst hpe
         have hpd : decide ((p : Int) < (p : Int)) = false := by simp
         have hne : ((p : Int) == (p : Int)) = true := by simp
         have hR3 := hR2.emit
         rw [<- htk] at hR3
         have hol := hR3.outlen
         have hXl3 := hR3.len HP.out hl
         have hb3 := hR3.bias HP.out hl
         have HR3 := jL hR3
         have hst : (stP P (D ++ [e1])).out.length = d1 + 1 := by rw [zzf, PSt.step_len, HD1.out]
         rw [hst] at hol
         have HST := jL hst
         have HC3 : Hid (d0 < d1 + 1 + ((P.drop (k + 1)).filter (fun x => decide (x = p))).length) := by
          show _ < _
          rw [List.filter_cons_of_pos (by simp), List.length_cons] at hcnt
          omega
         have hfst : ((d1 : Int) == (bas : Int)) = D.isEmpty := by
          rw [HD1.out, zze, HBAS.out]
          cases D with
          | nil => simp
          | cons x D => simp; omega
         have hfsN : (d1 == bas) = D.isEmpty := by
          rw [HD1.out, zze, HBAS.out]
          cases D with
          | nil => simp
          | cons x D => simp
         have hbn : zzh P (D ++ [e1]) = adp e1 (d1 + 1) D.isEmpty := by rw [zzj, HD1.out]
         have hXn : zzg P (D ++ [e1]) = X ++ (zzs e1 0 b1).map zzz := by rw [zzi, HX.out, HB1.out]
         have cA := z0y e1 (d1 + 1) D.isEmpty (by omega) (by omega) (by omega)
         rw [<- hbn] at cA
         obtain ⟨b2, hb2⟩ : ∃ b2, b2 = zzh P (D ++ [e1]) := ⟨_, rfl⟩
         rw [<- hb2] at cA hb3
         rw [show ((d1 + 1 : Nat) : Int) = (d1 : Int) + 1 by omega] at cA
         have HB2 := jL hb2
         have HXN := jL hXn
         generalize D.isEmpty = fst at *
         clear hR2 hR3 hcnt hdr htk hst hbn hXn hb2
         go_wp2_with fail
         refine (z01 b1 (by omega) wr).mono ?_
         rintro e wt ⟨⟨bk, bb, rfl, hclo⟩, hbt⟩
         have hownt := zaq hown hbt
         have hbt2 := hb.trans (hbt.mono hb.size)
         have HCLO := jL (hclo.mono hb.size)
         clear hclo hbt hown hb
         go_wp2_with fail
         refine (z04 w.heap.size w wt _ X X.length rfl e1 b1 bk bb hownt HCLO.out hbt2 jH he1 hb1 (by omega)).mono ?_
         rintro e wa ⟨⟨va, rfl, howna⟩, hba⟩
         clear hownt hbt2
         go_wp2_with (go_at_call 206; refine (cA _).mono ?_; rintro e w' ⟨rfl, rfl⟩)
         go_roundg (P.length - (k + 1))
         case rel =>
          refine ⟨k + 1, D ++ [e1], d1 + 1, 0, b2, zzg P (D ++ [e1]), by omega, rfl, by go_num, by go_num, rfl, rfl, by omega, by omega, hb3, hXl3, HR3, jL HST.out.symm, HB2, jL rfl, HC3, ?_, hba⟩
          have e3 : (zzg P (D ++ [e1])).length = X.length + (zzs e1 0 b1).length := by rw [HXN.out, List.length_append, List.length_map]
          rw [e3, HXN.out]
          exact howna
         case measure => rw [HG4.out]; omega
        ·have hpd : decide ((p : Int) < (m : Int)) = false := jF (by omega)
         have hpN : decide (p < m) = false := jF hpm
         have hne : ((p : Int) == (m : Int)) = false := by rw [beq_eq_false_iff_ne]; omega
         have hneN : (p == m) = false := by rw [beq_eq_false_iff_ne]; omega
         have hR3 := hR2.pass hpm hpe
         rw [<- htk] at hR3
         have HR3 := jL hR3
         have HC3 : Hid (d0 < d1 + ((P.drop (k + 1)).filter (fun x => decide (x = m))).length) := by
          show _ < _
          rw [List.filter_cons_of_neg (by simpa using hpe)] at hcnt
          exact hcnt
         clear hR2 hR3 hcnt hdr htk
         go_wp2
         go_roundg (P.length - (k + 1))
         case rel => exact ⟨k + 1, D, d1, e1, b1, X, by omega, rfl, by go_num, rfl, rfl, rfl, hd1, he1, hb1, hXl, HR3, HD1, HB1, HX, HC3, hown, hb⟩
         case measure => rw [HG4.out]; omega
      ·obtain rfl : k = P.length := by omega
       have hkd : decide ((P.length : Int) < (P.length : Int)) = false := by simp
       have hE2 : EncAt P D (m + 1) (e1 + 1) := by
        have := HR.out
        rw [List.drop_length] at this
        exact this.done
       have he2 := hE2.small (by omega) hl
       have HE2 := jL hE2
       have hdd : d0 < d1 := by
        have := HCNT.out
        rw [List.drop_length] at this
        exact this
       clear hE2
       go_wp2
       go_roundg (P.length - d1)
       case rel => exact ⟨D, d1, m + 1, e1 + 1, b1, X, rfl, rfl, by go_num, by go_num, rfl, hd1, by omega, he2, hb1, hXl, HE2, HD1, HB1, HX, hown, hb⟩
       case measure => rw [HG.out]; omega
    ·have hdl : decide ((d0 : Int) < (P.length : Int)) = false := jF (by omega)
     have hfin : zy4 P = D := HE.out.fin (by rw [<- HD.out]; exact hlt0)
     have HX2 : Hid (X = zyh P) := by show _ = _; rw [HX.out, zyh, hfin]; rfl
     have hconv := z36 wr _ _ _ _ hown
     rw [HX2.out] at hconv
     clear hfin
     go_wp2
     go_ret2
     exact ⟨rfl, hb⟩
theorem z1g (A : Option Addr) (len cap : Nat) (w : World) (hl : 256 < len) :
 Calls Tryz.prog 181 #[.slice A len cap] w fun e w' => e = .returned (.tuple #[.string (bs []), .int .i64 3]) /\ Below w.heap.size w w' := by
 have hd : decide ((256 : Int) < (len : Int)) = true := jT (by omega)
 go_enter Tryz.func181, Tryz.ntmps181
 go_wp2
 go_ret2
 exact ⟨rfl, Below.refl _ _⟩
set_option maxRecDepth 20000 in
theorem z1h (Z : List Int) (hZ : ¬ Z.all ptZ = true) (hl : Z.length <= 256) (A : Option Addr) (len cap B : Nat) (w : World) (hA : Has w B A len (Z.map zv)) (hB : B <= w.heap.size) :
 Calls Tryz.prog 181 #[.slice A len cap] w fun e w' => e = .returned (.tuple #[.string (bs []), .int .i64 2]) /\ Below w.heap.size w w' := by
 obtain ⟨i5, hi5, hz0, hz1, hz2⟩ := info_parts z34
 have hlen : len = Z.length := by have := hA.1; simpa using this.symm
 subst hlen
 have H := jL hA
 have HZ := jL hZ
 clear hA hZ
 have hd256 : decide ((256 : Int) < (Z.length : Int)) = false := jF (by omega)
 go_enter Tryz.func181, Tryz.ntmps181
 go_wp2
 go_loopw [4, 20] (fun v i wr => ∃ (k : Nat) (O : List UInt8), k <= Z.length /\ i = .int .i64 k /\ Hid ((Z.take k).all ptZ = true) /\ O.length <= k /\ wr.ownsRow w.heap.size 5 1 v O.length (O.map bv) /\ Below w.heap.size w wr) (fun _ i _ => Z.length - (intOf i).toNat)
 case atStart => exact ⟨0, [], Nat.zero_le _, rfl, jL rfl, by simp, World.ownsRow_nil _ _ _ _, Below.refl _ _⟩
 case round =>
  obtain ⟨k, O, hk, rfl, HALL, hOl, hown, hb⟩ := hrel
  by_cases hlt : k < Z.length
  ·obtain ⟨b1, o1, rfl, l1, d1⟩ := H.out.2 (by omega)
   have g1 := zxt H.out hb hB k hlt hlt
   have hkd : decide ((k : Int) < (Z.length : Int)) = true := jT (by omega)
   have c1 := z0t Z[k]
   have htk : Z.take (k + 1) = Z.take k ++ [Z[k]] := List.take_succ_eq_append_getElem hlt
   obtain ⟨z, hz⟩ : ∃ z, z = Z[k] := ⟨_, rfl⟩
   rw [<- hz] at g1 c1 htk
   clear d1 hz
   by_cases hpt : ptZ z = true
   ·have HALL2 : Hid ((Z.take (k + 1)).all ptZ = true) := by
     show _ = _
     rw [htk, List.all_append, HALL.out]
     simpa using hpt
    have hz01 : 0 <= z /\ z <= 1114111 := by
     unfold ptZ at hpt
     simp at hpt
     have := zzo hpt.2
     omega
    obtain ⟨hz0', hz1'⟩ := hz01
    rw [hpt] at c1
    clear htk hpt
    by_cases h128 : z < 128
    ·have hd : decide (z < 128) = true := jT h128
     obtain ⟨p, rfl⟩ : ∃ p : Nat, z = (p : Int) := ⟨z.toNat, by omega⟩
     have HBV := jL (zxp (p := p) (by omega))
     go_wp2_with (first | (go_at_call 202; refine (c1 _).mono ?_; rintro e w' ⟨rfl, rfl⟩) | (at_builtin; refine zcq wr rfl _ _ 72 rfl w.heap.size 5 i5 (.int .u8 0) 1 z31 hi5 hz0 hz1 hz2 rfl _ (by exact rfl) _ _ _ (by exact rfl) hown (by exact rfl) (by unfold maxLen; omega) (by omega) hb jH ?_; intro v' w' hown' hb' _))
     go_roundw
     case rel =>
      refine ⟨k + 1, O ++ [UInt8.ofNat p], by omega, by go_num, HALL2, by simp; omega, ?_, hb'⟩
      rw [List.map_append, List.length_append]
      simp only [List.map_cons, List.map_nil, HBV.out, List.length_singleton]
      exact hown'
     case measure => simp [intOf]; omega
    ·have hd : decide (z < 128) = false := jF h128
     go_wp2_with (go_at_call 202; refine (c1 _).mono ?_; rintro e w' ⟨rfl, rfl⟩)
     go_roundw
     case rel => exact ⟨k + 1, O, by omega, by go_num, HALL2, by omega, hown, hb⟩
     case measure => simp [intOf]; omega
   ·rw [Bool.not_eq_true] at hpt
    rw [hpt] at c1
    clear htk hpt
    go_wp2_with (go_at_call 202; refine (c1 _).mono ?_; rintro e w' ⟨rfl, rfl⟩)
    go_ret2
    exact ⟨rfl, hb⟩
  ·exfalso
   have e : k = Z.length := by omega
   have := HALL.out
   rw [e, List.take_length] at this
   exact HZ.out this
theorem z1i : zx1 181 := by
 intro Z A len cap B w hin hB _
 have hA := hin.has
 have hlen : len = Z.length := by have := hA.1; simpa using this.symm
 by_cases h1 : 256 < Z.length
 ·have e : zyt Z = (3, []) := by unfold zyt; rw [if_pos h1]
  rw [e]
  exact z1g A len cap w (by omega)
 ·by_cases h2 : Z.all ptZ = true
  ·have e : zyt Z = (0, zyh (Z.map Int.toNat)) := by unfold zyt; rw [if_neg h1, if_pos h2]
   obtain ⟨hP, hZ⟩ := zyu h2
   rw [e]
   refine z1f _ hP (by rw [List.length_map]; omega) A len cap B w ?_ hB
   rw [zxs, hZ]
   exact hA
  ·have e : zyt Z = (2, []) := by unfold zyt; rw [if_neg h1, if_neg h2]
   rw [e]
   exact z1h Z h2 (by omega) A len cap B w hA hB
end

section
open Go.RowKit
set_option maxHeartbeats 16000000
def ppV (l : List UInt8) : List Nat := if zs2 l = true then puV l else []
def ztx (l : List UInt8) (w : World) (e : Ending) (w' : World) : Prop := (∃ v, e = .returned (.tuple #[v, .bool (zs2 l)]) /\ w'.ownsRow w.heap.size 3 1 v (ppV l).length ((ppV l).map nvI)) /\ Below w.heap.size w w'
theorem ztx.no {l : List UInt8} {w w' : World} (h : zs2 l = false) (hb : Below w.heap.size w w') : ztx l w (.returned (.tuple #[.slice none 0 0, .bool false])) w' := by
 refine ⟨⟨_, by rw [h], ?_⟩, hb⟩
 unfold ppV
 rw [if_neg (by rw [h]; simp)]
 exact World.ownsRow_nil _ _ _ _
theorem ztx.yes {l : List UInt8} {p : List Nat} {w w' : World} {v : Value} (h : zs2 l = true) (hd : zye l = .ok p) (ho : w'.ownsRow w.heap.size 3 1 v p.length (p.map nvI)) (hb : Below w.heap.size w w') : ztx l w (.returned (.tuple #[v, .bool true])) w' := by
 refine ⟨⟨v, by rw [h], ?_⟩, hb⟩
 unfold ppV
 rw [if_pos h, (z0g hd).2]
 exact ho
set_option maxRecDepth 20000 in
theorem zty (r : ByteArray) (w : World) (hr : r.size <= 1000000000) :
 Calls Tryz.prog 195 #[.string r] w (ztx (ls r) w) := by
 have c1 := z1e r w hr
 unfold z0h at c1
 cases hd : zye (ls r) with
 | error c =>
   have hc := zyz hd
   obtain ⟨d1, d2⟩ := z0f hd
   have hcz : ((c : Int) != 0) = true := by rw [bne_iff_ne]; omega
   have hcN : (c != 0) = true := by rw [bne_iff_ne]; exact hc
   have HN := jL (zt6 hd)
   rw [d1, d2] at c1
   clear hd d1 d2
   go_enter Tryz.func195, Tryz.ntmps195
   go_wp2_with fail
   refine c1.mono ?_
   rintro e w1 ⟨⟨v, rfl, _⟩, hb⟩
   go_wp2
   go_ret2
   exact ztx.no HN.out hb
 | ok p =>
   obtain ⟨hP, hpl, _, _⟩ := zyq hd
   obtain ⟨d1, d2⟩ := z0g hd
   have hple : ∀ x ∈ p, x <= 1114111 := fun x hx => zzo (hP x hx)
   have cE := fun A c B W hin hB => z1i (p.map (fun n : Nat => (n : Int))) A p.length c B W hin hB (by rw [List.length_map]; omega)
   rw [zy0 hP hpl] at cE
   obtain ⟨X, hX⟩ : ∃ X, X = bs (zyh p) := ⟨_, rfl⟩
   rw [show ((0 : Nat), zyh p).2 = zyh p from rfl, show (((0 : Nat), zyh p).1 : Nat) = 0 from rfl, <- hX] at cE
   have cN := fun A c B W hA hB => zts p hple A c B W hA hB (by omega)
   have cU := fun A c B W hA hB => ztu p hple A c B W hA hB (by omega)
   have hWF : ∀ z ∈ p.map (fun n : Nat => (n : Int)), -9223372036854775808 <= z /\ z <= 9223372036854775807 := by
    intro z hz
    obtain ⟨x, hx, rfl⟩ := List.mem_map.1 hz
    exact zx4 (hple x hx)
   have HWF := jL hWF
   obtain ⟨q, hq⟩ : ∃ q, (X.toList == r.toList) = q := ⟨_, rfl⟩
   have hqn : (X.toList != r.toList) = !q := by rw [<- hq]; rfl
   have HR : Hid (zs2 (ls r) = (p.any (fun x => decide (128 <= x)) && !(p.any zs1) && q)) := by
    show _ = _
    rw [zt5 hd, <- hq, hX, zb3, zb3, zb0]
    unfold zt0 zt1
    rw [List.take_length]
    congr 1
    by_cases he : zyh p = ls r
    ·rw [he]; simp
    ·rw [jF he]; simp [he]
   obtain ⟨bn, hbn⟩ : ∃ b, b = p.any (fun x => decide (128 <= x)) := ⟨_, rfl⟩
   obtain ⟨bu, hbu⟩ : ∃ b, b = p.any zs1 := ⟨_, rfl⟩
   rw [<- hbn] at cN HR
   rw [<- hbu] at cU HR
   have HD := jL hd
   rw [d1, d2] at c1
   clear hd d1 d2 hX hP hple hWF hbn hbu hpl
   cases bn with
   | false =>
     have HN : Hid (zs2 (ls r) = false) := by show _ = _; rw [HR.out]; rfl
     go_enter Tryz.func195, Tryz.ntmps195
     go_wp2_with fail
     refine c1.mono ?_
     rintro e w1 ⟨⟨v, rfl, hown⟩, hb⟩
     obtain ⟨A1, k1, rfl, hh, _⟩ := Has.of_own hown
     go_wp2_with fail
     refine (cN A1 k1 _ w1 hh jH).mono ?_
     rintro e w2 ⟨rfl, hb2⟩
     go_wp2
     go_ret2
     exact ztx.no HN.out (hb.trans (hb2.mono hb.size))
   | true =>
     cases bu with
     | true =>
       have HN : Hid (zs2 (ls r) = false) := by show _ = _; rw [HR.out]; rfl
       go_enter Tryz.func195, Tryz.ntmps195
       go_wp2_with fail
       refine c1.mono ?_
       rintro e w1 ⟨⟨v, rfl, hown⟩, hb⟩
       obtain ⟨A1, k1, rfl, hh, _⟩ := Has.of_own hown
       go_wp2_with fail
       refine (cN A1 k1 _ w1 hh jH).mono ?_
       rintro e w2 ⟨rfl, hb2⟩
       have hh2 := hh.below hb2
       have hs2 := hb2.size
       replace hb2 := hb.trans (hb2.mono hb.size)
       go_wp2_with fail
       refine (cU A1 k1 _ w2 hh2 hs2).mono ?_
       rintro e w3 ⟨rfl, hb3⟩
       go_wp2
       go_ret2
       exact ztx.no HN.out (hb2.trans (hb3.mono hb2.size))
     | false =>
       have HP : Hid (zs2 (ls r) = q) := by show _ = _; rw [HR.out]; simp
       clear HR
       cases q
       all_goals
        go_enter Tryz.func195, Tryz.ntmps195
        go_wp2_with fail
        refine c1.mono ?_
        rintro e w1 ⟨⟨v, rfl, hown⟩, hb⟩
        have hown0 := hown
        rw [zx5] at hown
        obtain ⟨A1, k1, rfl, hin1⟩ := zx3 hown HWF.out
        have hh := hin1.has
        rw [<- zx5] at hh
        clear hown
        go_wp2_with fail
        refine (cN A1 k1 _ w1 hh jH).mono ?_
        rintro e w2 ⟨rfl, hb2⟩
        have hh2 := hh.below hb2
        have hin2 := hin1.below hb2 jH
        have hown2 := zaq hown0 hb2
        have hs2 := hb2.size
        replace hb2 := hb.trans (hb2.mono hb.size)
        clear hown0 hin1
        go_wp2_with fail
        refine (cU A1 k1 _ w2 hh2 hs2).mono ?_
        rintro e w3 ⟨rfl, hb3⟩
        have hin3 := hin2.below hb3 hs2
        have hown3 := zaq hown2 hb3
        have hs3 := Nat.le_trans hs2 hb3.size
        replace hb3 := hb2.trans (hb3.mono hb2.size)
        clear hown2 hin2 hh2 hh
        go_wp2_with fail
        refine (cE A1 k1 _ w3 hin3 hs3).mono ?_
        rintro e w4 ⟨rfl, hb4⟩
        have hown4 := zaq hown3 hb4
        replace hb4 := hb3.trans (hb4.mono hb3.size)
        clear hown3 hin3
        go_wp2
        go_ret2
        first
        | exact ztx.no HP.out hb4
        | exact ztx.yes HP.out HD.out hown4 hb4
end

section
open Go.RowKit
set_option maxHeartbeats 16000000
set_option maxRecDepth 20000 in
theorem pTU : zs0 162 := by
 intro s w hs
 have c1 := zuk s
 cases hpl : zue (ls s) with
 | false =>
   have hl : zs4 (ls s) = false := by rw [zuf, hpl]; rfl
   rw [zuw hl]
   rw [hpl] at c1
   clear hl hpl
   go_enter Tryz.func162, Tryz.ntmps162
   go_wp2_with (go_at_call 194; refine (c1 _).mono ?_; rintro e w1 ⟨rfl, rfl⟩)
   go_ret2
   exact ⟨rfl, Below.refl _ _⟩
 | true =>
   rw [hpl] at c1
   by_cases hx : (ls s).take 4 = xnL
   ·have hlp : zs4 (ls s) = zs2 ((ls s).drop 4) := by rw [zuf, hpl, jF (by simp [hx])]; rfl
    have c2 := zut hx
    obtain ⟨r, hr⟩ : ∃ r, r = bs ((ls s).drop 4) := ⟨_, rfl⟩
    have hrs : r.size <= 1000000000 := by rw [hr, zb5, List.length_drop, zb4]; omega
    have c3 := fun W => zty r W hrs
    unfold ztx at c3
    rw [<- hr] at c2
    have hlr : ls r = (ls s).drop 4 := by rw [hr, zb0]
    rw [hlr] at c3
    cases hpr : zs2 ((ls s).drop 4) with
    | false =>
      rw [zuw (hlp.trans hpr)]
      rw [hpr] at c3
      clear hpl hx hlp hr hlr hpr
      go_enter Tryz.func162, Tryz.ntmps162
      go_wp2_with (first | (go_at_call 194; refine (c1 _).mono ?_; rintro e w1 ⟨rfl, rfl⟩) | (go_at_call 80; refine (c2 _).mono ?_; rintro e w1 ⟨rfl, rfl⟩))
      refine (c3 _).mono ?_
      rintro e w1 ⟨⟨v, rfl, hown⟩, hb⟩
      go_wp2
      go_ret2
      exact ⟨rfl, hb⟩
    | true =>
      obtain ⟨p, hd, hP, hpl2, _, _, _⟩ := zs9 hpr
      rw [zux (hlp.trans hpr) hx hd]
      have hV : ppV ((ls s).drop 4) = p := by unfold ppV; rw [if_pos hpr, (z0g hd).2]
      rw [hpr, hV] at c3
      have c4 := fun A cap B W hA hB => ztw p hP A cap B W hA hB (by omega)
      obtain ⟨X, hX⟩ : ∃ X, X = bs (yas p) := ⟨_, rfl⟩
      rw [<- hX] at c4
      rw [show bs ((0 : Nat), yas p).2 = X from hX.symm]
      clear hpl hx hlp hr hlr hpr hd hV hX hP
      go_enter Tryz.func162, Tryz.ntmps162
      go_wp2_with (first | (go_at_call 194; refine (c1 _).mono ?_; rintro e w1 ⟨rfl, rfl⟩) | (go_at_call 80; refine (c2 _).mono ?_; rintro e w1 ⟨rfl, rfl⟩))
      refine (c3 _).mono ?_
      rintro e w1 ⟨⟨v, rfl, hown⟩, hb⟩
      obtain ⟨A1, k1, rfl, hh, _⟩ := Has.of_own hown
      go_wp2_with fail
      refine (c4 A1 k1 _ w1 hh jH).mono ?_
      rintro e w2 ⟨rfl, hb2⟩
      go_wp2
      go_ret2
      exact ⟨rfl, hb.trans (hb2.mono hb.size)⟩
   ·have hl : zs4 (ls s) = true := by rw [zuf, hpl, jT hx]; rfl
    rw [zuy hl hx, show bs ((0 : Nat), ls s).2 = s from zb1 s]
    have c2 := zuu hx
    have c3 := fun W => zur s W hs
    clear hpl hx hl
    go_enter Tryz.func162, Tryz.ntmps162
    go_wp2_with (first | (go_at_call 194; refine (c1 _).mono ?_; rintro e w1 ⟨rfl, rfl⟩) | (go_at_call 80; refine (c2 _).mono ?_; rintro e w1 ⟨rfl, rfl⟩))
    refine (c3 _).mono ?_
    rintro e w1 ⟨rfl, hb⟩
    go_wp2
    go_ret2
    exact ⟨rfl, hb⟩
theorem ztz : zsy 125 := by
 intro s w hs
 have c1 := pTU s w hs
 rcases ztd (ls s) with ⟨hl, h0⟩ | ⟨hl, h0⟩
 ·rw [hl]
  rw [h0] at c1
  generalize bs (toU (ls s)).2 = X at c1
  clear hl h0
  go_enter Tryz.func125, Tryz.ntmps125
  go_wp2_with fail
  refine c1.mono ?_
  rintro e w1 ⟨rfl, hb⟩
  go_wp2
  go_ret
  exact ⟨rfl, hb⟩
 ·rw [hl]
  rw [h0] at c1
  clear hl h0
  go_enter Tryz.func125, Tryz.ntmps125
  go_wp2_with fail
  refine c1.mono ?_
  rintro e w1 ⟨rfl, hb⟩
  go_wp2
  go_ret
  exact ⟨rfl, hb⟩
set_option maxRecDepth 20000 in
theorem pTA : zsz 150 := by
 intro s w hs hT
 have c1 := zun s w hs hT
 cases hp : yaq (ls s) with
 | none =>
   rw [zuz hp]
   rw [hp] at c1
   clear hp
   go_enter Tryz.func150, Tryz.ntmps150
   go_wp2_with (go_at_call 179; refine c1.mono ?_; rintro e w1 ⟨rfl, hb⟩)
   go_ret2
   exact ⟨rfl, hb⟩
 | some P =>
   obtain ⟨hpt, htx⟩ := ya6 hp
   have hle := (ya8 P).1
   rw [htx, zb4] at hle
   rw [hp] at c1
   have c2 := fun W => zuo hp W hs
   rw [show (some P).isSome = true from rfl] at c1
   by_cases h256 : 256 < P.length
   ·rw [zu0 hp h256]
    have hd : decide ((256 : Int) < (P.length : Int)) = true := jT (by omega)
    clear hp hpt htx
    go_enter Tryz.func150, Tryz.ntmps150
    go_wp2_with fail
    refine c1.mono ?_
    rintro e w1 ⟨rfl, hb⟩
    go_wp2_with fail
    refine (c2 _).mono ?_
    rintro e w2 ⟨rfl, hb2⟩
    go_wp2
    go_ret2
    exact ⟨rfl, hb.trans (hb2.mono hb.size)⟩
   ·rw [zu1 hp h256]
    have hd : decide ((256 : Int) < (P.length : Int)) = false := jF (by omega)
    have cL := fun W => zba s W hs
    by_cases hlt : P.length < s.size
    ·have hlN : decide ((P.length : Int) < (s.size : Int)) = true := jT (by omega)
     have hpt2 : ∀ x ∈ P.map ybc, ptN x = true := by
      intro x hx
      obtain ⟨y, hy, rfl⟩ := List.mem_map.1 hx
      exact ybg (hpt y hy)
     have hpq : yaq (ls (zbl s)) = some (P.map ybc) := by rw [show ls (zbl s) = zbk (ls s) from rfl, ybj, hp]; rfl
     have eO : zs5 (ls s) P = xnL ++ zyh (P.map ybc) := by unfold zs5; rw [if_pos (by rw [zb4]; exact hlt)]
     obtain ⟨Q, hQ⟩ : ∃ Q, Q = P.map ybc := ⟨_, rfl⟩
     have hQl : Q.length = P.length := by rw [hQ, List.length_map]
     rw [<- hQ] at hpt2 hpq eO
     have c3 := fun W hW => ztv (zbl s) Q hpq W (by rw [zbn]; exact hs) hW
     have hWF : ∀ z ∈ Q.map (fun n : Nat => (n : Int)), -9223372036854775808 <= z /\ z <= 9223372036854775807 := by
      intro z hz
      obtain ⟨x, hx, rfl⟩ := List.mem_map.1 hz
      exact zx4 (zzo (hpt2 x hx))
     have HWF := jL hWF
     have cE := fun A c B W hin hB => z1i (Q.map (fun n : Nat => (n : Int))) A Q.length c B W hin hB (by rw [List.length_map]; omega)
     rw [zy0 hpt2 (by omega)] at cE
     obtain ⟨X, hX⟩ : ∃ X, X = bs (zyh Q) := ⟨_, rfl⟩
     rw [show ((0 : Nat), zyh Q).2 = zyh Q from rfl, show (((0 : Nat), zyh Q).1 : Nat) = 0 from rfl, <- hX] at cE
     have hXl : X.size <= 4000 := by
      have := zys hpt2 (by omega)
      rw [hX, zb5]
      omega
     have hY : ∀ Y : ByteArray, Y = (⟨#[120, 110, 45, 45]⟩ : ByteArray) ++ X -> Y.size <= 1000000000 /\ ls Y = zs5 (ls s) P := by
      intro Y hY
      refine ⟨?_, ?_⟩
      ·rw [hY, ByteArray.size_append, show (⟨#[120, 110, 45, 45]⟩ : ByteArray).size = 4 from rfl]; omega
      ·rw [hY, zb6, hX, eO]; rfl
     obtain ⟨hYs, eY⟩ := hY _ rfl
     have c4 := fun W => ztz _ W hYs
     rw [eY] at c4
     have HB : Hid (bs (zs5 (ls s) P) = (⟨#[120, 110, 45, 45]⟩ : ByteArray) ++ X) := by show _ = _; rw [<- eY, zb1]
     obtain ⟨O, hO⟩ : ∃ O, O = zs5 (ls s) P := ⟨_, rfl⟩
     rw [<- hO] at c4 HB ⊢
     obtain ⟨q, hq⟩ : ∃ q, q = zs4 O := ⟨_, rfl⟩
     rw [<- hq] at c4 ⊢
     have HTT := jL hT
     clear hp hpt htx hX hY eY hO hq eO hQ hQl hpt2 hpq hs hYs hle hWF hT
     have hfin : (if q = true then ((0 : Nat), O) else (14, [])) = (if q = true then 0 else 14, if q = true then O else []) := by cases q <;> rfl
     rw [hfin]
     have HF : Hid (bs (if q = true then O else []) = if q = true then (⟨#[120, 110, 45, 45]⟩ : ByteArray) ++ X else ByteArray.mk #[]) := by
      show _ = _
      cases q
      ·rfl
      ·exact HB.out
     rw [HF.out]
     clear HF HB hfin
     go_enter Tryz.func150, Tryz.ntmps150
     go_wp2_with fail
     refine c1.mono ?_
     rintro e w1 ⟨rfl, hb⟩
     go_wp2_with fail
     refine (c2 _).mono ?_
     rintro e w2 ⟨rfl, hb2⟩
     replace hb2 := hb.trans (hb2.mono hb.size)
     go_wp2_with fail
     refine (cL _).mono ?_
     rintro e w3 ⟨rfl, hb3⟩
     replace hb3 := hb2.trans (hb3.mono hb2.size)
     have c5 := c3 w3 (z4c HTT.out hb3)
     go_wp2_with fail
     refine c5.mono ?_
     rintro e w4 ⟨⟨v, rfl, hown⟩, hb4⟩
     rw [zx5] at hown
     obtain ⟨A4, k4, rfl, hin4⟩ := zx3 hown HWF.out
     replace hb4 := hb3.trans (hb4.mono hb3.size)
     clear hown c5 c3
     go_wp2_with fail
     refine (cE A4 k4 _ w4 hin4 jH).mono ?_
     rintro e w5 ⟨rfl, hb5⟩
     replace hb5 := hb4.trans (hb5.mono hb4.size)
     clear hin4 cE
     cases q
     all_goals
      go_wp2_with fail
      refine (c4 _).mono ?_
      rintro e w6 ⟨rfl, hb6⟩
      replace hb6 := hb5.trans (hb6.mono hb5.size)
      go_wp2
      go_ret2
      exact ⟨rfl, hb6⟩
    ·have hlN : decide ((P.length : Int) < (s.size : Int)) = false := jF (by omega)
     have eO : zs5 (ls s) P = zbk (ls s) := by unfold zs5; rw [if_neg (by rw [zb4]; exact hlt)]
     rw [eO]
     have c4 := fun W => ztz (zbl s) W (by rw [zbn]; exact hs)
     rw [show ls (zbl s) = zbk (ls s) from rfl] at c4
     have HB : Hid (bs (zbk (ls s)) = zbl s) := rfl
     obtain ⟨O, hO⟩ : ∃ O, O = zbk (ls s) := ⟨_, rfl⟩
     rw [<- hO] at c4 HB ⊢
     obtain ⟨q, hq⟩ : ∃ q, q = zs4 O := ⟨_, rfl⟩
     rw [<- hq] at c4 ⊢
     clear hp hpt htx hO hq eO hle
     have hfin : (if q = true then ((0 : Nat), O) else (14, [])) = (if q = true then 0 else 14, if q = true then O else []) := by cases q <;> rfl
     rw [hfin]
     have HF : Hid (bs (if q = true then O else []) = if q = true then zbl s else ByteArray.mk #[]) := by
      show _ = _
      cases q
      ·rfl
      ·exact HB.out
     rw [HF.out]
     clear HF HB hfin
     go_enter Tryz.func150, Tryz.ntmps150
     go_wp2_with fail
     refine c1.mono ?_
     rintro e w1 ⟨rfl, hb⟩
     go_wp2_with fail
     refine (c2 _).mono ?_
     rintro e w2 ⟨rfl, hb2⟩
     replace hb2 := hb.trans (hb2.mono hb.size)
     go_wp2_with fail
     refine (cL _).mono ?_
     rintro e w3 ⟨rfl, hb3⟩
     replace hb3 := hb2.trans (hb3.mono hb2.size)
     cases q
     all_goals
      go_wp2_with fail
      refine (c4 _).mono ?_
      rintro e w6 ⟨rfl, hb6⟩
      replace hb6 := hb3.trans (hb6.mono hb3.size)
      go_wp2
      go_ret2
      exact ⟨rfl, hb6⟩
end

section
open Go.RowKit
set_option maxHeartbeats 16000000
theorem zg6 : zd1 111 := fun s w hs => (zrw s hs w).mono fun _e _w' h => ⟨h.1, h.2 ▸ Below.refl _ _⟩
theorem qPN : zef 149 := fun s w hs => (zrr s hs w).mono fun _e _w' h => ⟨h.1, h.2 ▸ Below.refl _ _⟩
theorem qF4 : zf8 72 := fun v h0 h1 w hp => zrt v h0 h1 w hp
theorem qP6 : zeg 143 := zmq
theorem zg7 : zd2 94 := zea zg6 ztz
theorem qVn : zd3 64 := zeb zg7
theorem qCov : zd4 44 := zed qVn
theorem qVal : zft 43 := zfw qVn
theorem qFmt : zf9 51 := zgd qVal qF4 zmb
theorem qPar : zfj 84 := zfs zg6 qPN qP6 pTA
end

section
open Go.RowKit
set_option maxHeartbeats 16000000
abbrev laid4 : List (String × DataW Unit) := Rows.urlFunctionsMatchSpecRow.laid
theorem zgh : (Rows.laid_unicode_utf8_acceptRanges : DataW Unit) = Lib.acceptData := by kernel_rfl
theorem zgi : (Rows.laid_unicode_utf8_first : DataW Unit) = Lib.firstData := Pinned.utf8First_eq
theorem zgj : (Rows.laid_internal_strconv_uint64pow10 : DataW Unit) = Lib.tabData .u64 Lib.pow10Tab := by kernel_rfl
theorem zgk : ∃ zs : List Int, (Rows.laid_math_bits_deBruijn64tab : DataW Unit) = Lib.tabData .u8 zs /\ zs.length = 64 /\ zs.getD 15 0 = 4 :=
 ⟨Lib.deBruijn64tab.map fun (x : Nat) => (x : Int), by kernel_rfl, rfl, rfl⟩
def zgl : String := (laid4.tail.head (List.cons_ne_nil _ _)).1
theorem zgm : U8Extra Tryz.prog Tryz.lays197_ren := ⟨by kernel_rfl, by kernel_rfl, by kernel_rfl, by kernel_rfl, by kernel_rfl, by kernel_rfl, by kernel_rfl⟩
def zgn : String := (laid4.tail.tail.tail.tail.tail.head (List.cons_ne_nil _ _)).1
theorem zgo : ∃ l : List UInt8, (Rows.laid_strconv_ErrSyntax : DataW Unit) = .iface "*errors.errorString" (.ptr (.agg [.lit (.string l)])) := ⟨_, rfl⟩
theorem zgp : "*" ++ "errors.errorString" = "*errors.errorString" := by decide
theorem zgq (u : TypeId) (h : Tryz.prog.typeName? 3 u = some "*errors.errorString") : u = 187 :=
 typeName_ptr_named (nm := "errors.errorString") (by rw [zgp]; kernel_rfl) (by kernel_rfl) (by decide) u (by rw [zgp]; exact h)
set_option maxRecDepth 20000 in
theorem zgr {W : World} (h : laidMetH Tryz.prog laid4 W) : Hw W := by
 rw [MakeChecks.laidMetH_plain _ _ _ (by kernel_rfl)] at h
 refine ⟨⟨?_, ?_⟩, ?_, ?_⟩
 ·obtain ⟨rest, h3⟩ : ∃ rest, laidMet Tryz.prog ((zw2, Lib.tabData .u64 Lib.pow10Tab) :: rest) W := by
   rw [<- zgj]
   exact ⟨_, h.tail.tail⟩
  exact Lib.tabIs_of_head (g := 1) (t := 141) (e := 91) (n := 20) (by kernel_rfl) (by kernel_rfl) (by kernel_rfl) (by kernel_rfl) (by kernel_rfl) (by kernel_rfl) h3
 ·obtain ⟨zs, he, hl, hz⟩ := zgk
  obtain ⟨rest, h3⟩ : ∃ rest, laidMet Tryz.prog ((zgl, Lib.tabData .u8 zs) :: rest) W := by
   rw [<- he]
   exact ⟨_, h.tail⟩
  have := (Lib.tabIs_of_head (g := 7) (t := 186) (e := 5) (n := 64) (by kernel_rfl) (by kernel_rfl) (by kernel_rfl) (by kernel_rfl) (by kernel_rfl) (by kernel_rfl) h3).cell (g := 7) (by kernel_rfl) 15 (by omega)
  rwa [hz] at this
 ·exact utf8Tabs_of_reads { Tryz.lays197 with } zgm (zgi ▸ Lib.laidMet.reads h (.tail _ (.tail _ (.tail _ (.tail _ (.tail _ (.tail _ (.head _)))))))) (zgh ▸ Lib.laidMet.reads h (.tail _ (.tail _ (.tail _ (.head _)))))
 ·obtain ⟨l, hl⟩ := zgo
  obtain ⟨rest, h3⟩ : ∃ rest, laidMet Tryz.prog ((zgn, .iface "*errors.errorString" (.ptr (.agg [.lit (.string l)]))) :: rest) W := by
   rw [<- hl]
   exact ⟨_, h.tail.tail.tail.tail.tail⟩
  obtain ⟨a, s, hv, _⟩ := laid_sentinel (g := 4) (ti := 100) (tp := 187) (te := 189) (ts := 9) h3 (by kernel_rfl) (by kernel_rfl) Tryz.underlying100 (fun u hu => zgq u hu) Tryz.underlying187 Tryz.underlying189 rfl rfl z33 (by kernel_rfl) (by kernel_rfl)
  exact ⟨_, _, by simpa using World.var?_cell (g := 4) (by kernel_rfl) hv 0⟩
end

section
open Go.RowKit
set_option maxHeartbeats 16000000
def z93 : String := (laid4.tail.tail.tail.tail.head (List.cons_ne_nil _ _)).1
theorem z94 : ∃ l : List UInt8, (Rows.laid_strconv_ErrRange : DataW Unit) = .iface "*errors.errorString" (.ptr (.agg [.lit (.string l)])) := ⟨_, rfl⟩
set_option maxRecDepth 20000 in
theorem uw_of_laid {W : World} (h : laidMetH Tryz.prog laid4 W) : Uw W := by
 refine ⟨zgr h, ?_⟩
 rw [MakeChecks.laidMetH_plain _ _ _ (by kernel_rfl)] at h
 obtain ⟨l, hl⟩ := z94
 obtain ⟨rest, h3⟩ : ∃ rest, laidMet Tryz.prog ((z93, .iface "*errors.errorString" (.ptr (.agg [.lit (.string l)]))) :: rest) W := by
  rw [<- hl]
  exact ⟨_, h.tail.tail.tail.tail⟩
 obtain ⟨a, s, hv, _⟩ := laid_sentinel (g := 5) (ti := 100) (tp := 187) (te := 189) (ts := 9) h3 (by kernel_rfl) (by kernel_rfl) Tryz.underlying100 (fun u hu => zgq u hu) Tryz.underlying187 Tryz.underlying189 rfl rfl z33 (by kernel_rfl) (by kernel_rfl)
 exact ⟨_, _, by simpa using World.var?_cell (g := 5) (by kernel_rfl) hv 0⟩
end

end Go.Proofs.YtekaljeicfjkjaaGreatDoor
