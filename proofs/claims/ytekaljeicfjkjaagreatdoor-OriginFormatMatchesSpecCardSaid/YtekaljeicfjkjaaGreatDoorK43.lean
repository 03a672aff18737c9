/-
Contracts of package label's pointsOf and textOf.
Contracts of the small functions of package punycode: isPoint, digitByte, digitOf, adapted.
Contracts of package punycode's closure of thresholds, and of the functions that call it: thresholds, appendNumber, addNumber.
Contract of package punycode's addNumber.
-/
import Derived.Test.YtekaljeicfjkjaaGreatDoorK14
import Derived.Test.YtekaljeicfjkjaaGreatDoorK31
import Derived.Test.YtekaljeicfjkjaaGreatDoorK42
import Derived.Deep.LoopGhost
import Derived.BigQuiet
import Derived.Test.YtekaljeicfjkjaaGreatDoorK28
import Derived.Test.YtekaljeicfjkjaaGreatDoorK29
import Derived.OneCell
namespace Go.Proofs.YtekaljeicfjkjaaGreatDoor
section
open Go.RowKit
set_option maxHeartbeats 16000000
set_option maxRecDepth 20000 in
theorem ztv (s : ByteArray) (P : List Nat) (hp : yaq (ls s) = some P) (w : World) (hs : s.size <= 1000000000) (hT : U8 w) :
 Calls Tryz.prog 182 #[.string s] w fun e w' => (∃ v, e = .returned v /\ w'.ownsRow w.heap.size 3 1 v P.length (P.map nvI)) /\ Below w.heap.size w w' := by
 obtain ⟨i3, hi3, hz0, hz1, hz2⟩ := info_parts z0j
 have HPT := jL (ya6 hp).1
 have hPl : P.length <= s.size := by
  have h1 := (ya8 P).1
  rw [(ya6 hp).2, zb4] at h1
  exact h1
 have HPL := jL (Nat.le_trans hPl hs)
 have HT := jL hT
 have HP0 := jL hp
 clear hPl hs hT hp
 go_enter Tryz.func182, Tryz.ntmps182
 go_wp2
 go_loopg [0, 3] s.size (fun g sv v wr => ∃ (t : ByteArray) (Q acc : List Nat), g = t.size /\ sv = .string t /\ Hid (yaq (ls t) = some Q) /\ Hid (acc ++ Q = P) /\ wr.ownsRow w.heap.size 3 1 v acc.length (acc.map nvI) /\ Below w.heap.size w wr)
 case atStart => exact ⟨s, P, [], rfl, rfl, HP0, rfl, World.ownsRow_nil _ _ _ _, Below.refl _ _⟩
 case round =>
  obtain ⟨t, Q, acc, hg, rfl, HQ, HA, hown, hb⟩ := hrel
  have HG := jL hg
  clear hg
  have hal : acc.length <= 1000000000 := by
   have := HPL.out
   rw [<- HA.out, List.length_append] at this
   omega
  by_cases h0 : t.size = 0
  ·have he : t.toList.isEmpty = true := by rw [zb3]; exact List.isEmpty_iff.2 (List.eq_nil_of_length_eq_zero (by rw [zb4]; exact h0))
   have HE : Hid (acc = P) := by
    have hn : ls t = [] := List.eq_nil_of_length_eq_zero (by rw [zb4]; exact h0)
    have h1 := HQ.out
    rw [hn, yaw] at h1
    injection h1 with h1
    have h2 := HA.out
    rw [<- h1, List.append_nil] at h2
    exact h2
   clear h0
   go_wp2
   go_ret
   rw [<- HE.out]
   exact ⟨⟨_, rfl, hown⟩, hb⟩
  ·have he : t.toList.isEmpty = false := by rw [zb3]; exact zte h0
   obtain ⟨p, Q2, hQ2⟩ : ∃ p Q2, Q = p :: Q2 := by
    cases Q with
    | nil =>
      exfalso
      have h1 := (ya6 HQ.out).2
      have := congrArg List.length h1
      rw [zb4] at this
      exact h0 this.symm
    | cons p Q2 => exact ⟨p, Q2, rfl⟩
   have hq := HQ.out
   rw [hQ2] at hq
   obtain ⟨k, hk1, hk2, hk3, cD⟩ := zup hq
   have hpt : ptN p = true := HPT.out p (by rw [<- HA.out, hQ2]; simp)
   have hple := zzo hpt
   have HX : Hid (yaq (ls (t.extract k t.size)) = some Q2) := by
    show _ = _
    rw [zb9, List.take_of_length_le (by rw [List.length_drop, zb4]; exact jH)]
    exact hk3
   have HA2 : Hid ((acc ++ [p]) ++ Q2 = P) := by show _ = _; rw [<- HA.out, hQ2]; simp
   have c1 := cD wr (z4c HT.out hb)
   have hkz : (k : Int) <= (t.size : Int) := by omega
   have hk0 : (0 : Int) <= (k : Int) := by omega
   have hp0 : (0 : Int) <= (p : Int) := by omega
   have hp1 : (p : Int) <= 1114111 := by omega
   clear hq hQ2 hk3 cD hpt hple h0
   go_wp2_with fail
   refine c1.mono ?_
   rintro e w1 ⟨rfl, hb1⟩
   have hown1 := zaq hown hb1
   replace hb1 := hb.trans (hb1.mono hb.size)
   clear hown
   go_wp2_with (at_builtin; refine zcq _ rfl _ _ 108 rfl w.heap.size 3 i3 (.int .i64 0) 8 z0i hi3 hz0 hz1 hz2 rfl _ (by exact rfl) _ _ _ (by exact rfl) hown1 (by exact rfl) (by unfold maxLen; omega) (by omega) hb1 jH ?_; intro v' w' hown' hb' _)
   go_roundg (t.size - k)
   case rel =>
    refine ⟨_, Q2, acc ++ [p], ?_, rfl, HX, HA2, ?_, hb'⟩
    ·rw [ByteArray.size_extract]; omega
    ·rw [List.length_append, List.map_append]
     exact hown'
   case measure => have := HG.out; omega
set_option maxRecDepth 20000 in
theorem ztw (P : List Nat) (hP : ∀ x ∈ P, ptN x = true) (A : Option Addr) (cap B : Nat) (w : World) (hA : Has w B A P.length (P.map nvI)) (hB : B <= w.heap.size) (hl : P.length <= 100000000) :
 Calls Tryz.prog 196 #[.slice A P.length cap] w fun e w' => e = .returned (.string (bs (yas P))) /\ Below w.heap.size w w' := by
 have HA := jL hA
 have HPT := jL hP
 have HL := jL hl
 clear hA hP hl
 go_enter Tryz.func196, Tryz.ntmps196
 go_wp2
 go_loopw [3, 8] (fun v i wr => ∃ k : Nat, k <= P.length /\ i = .int .i64 k /\ wr.ownsRow w.heap.size 5 1 v (yas (P.take k)).length ((yas (P.take k)).map bv) /\ Below w.heap.size w wr) (fun _ i _ => P.length - (RowKit.intOf i).toNat)
 case atStart => exact ⟨0, Nat.zero_le _, rfl, World.ownsRow_nil _ _ _ _, Below.refl _ _⟩
 case round =>
  obtain ⟨k, hk, rfl, hown, hb⟩ := hrel
  have hkb : (k : Int) <= 100000000 := by have := HL.out; omega
  by_cases hlt : k < P.length
  ·obtain ⟨b, off, rfl, hbw, hc⟩ := HA.out.2 (by omega)
   have h1 := hc k (by rw [List.length_map]; exact hlt)
   rw [List.getElem_map] at h1
   have d1 := (hb.cell (p := ⟨b, off + k, none⟩) (Nat.lt_of_lt_of_le hbw hB)).trans h1
   have hpt := HPT.out _ (List.getElem_mem hlt)
   have hsn := jL (z3z P k hlt)
   have hkl : (yas (P.take k)).length <= 400000000 := by
    have h2 := z30 (P.take k)
    have h3 := HL.out
    rw [List.length_take] at h2
    omega
   obtain ⟨x, hx⟩ : ∃ x, x = P[k] := ⟨_, rfl⟩
   rw [<- hx] at d1 hpt hsn
   have hple := zzo hpt
   have hp0 : (0 : Int) <= (x : Int) := by omega
   have hp1 : (x : Int) <= 1114111 := by omega
   have hkd : decide ((k : Int) < (P.length : Int)) = true := jT (by omega)
   have cA := fun v n l hv hn => zuq (w0 := w) (w := wr) (B := w.heap.size) (v := v) (n := n) (l := l) hpt hv hn hb jH
   have c1 := cA _ _ _ hown (by omega)
   have hlen : Hid ((yas (P.take (k + 1))).length = (yas (P.take k)).length + (yar x).length) := by show _ = _; rw [hsn.out, List.length_append]
   clear hc h1 hx cA hpt hple hkl
   go_wp2_with fail
   refine c1.mono ?_
   rintro e w1 ⟨v', rfl, hown', hb'⟩
   clear hown c1
   go_wp2
   go_roundw
   case rel =>
    refine ⟨k + 1, by omega, by go_num, ?_, hb'⟩
    rw [hlen.out, hsn.out]
    exact hown'
   case measure => simp [RowKit.intOf]; omega
  ·obtain rfl : k = P.length := by omega
   have hkd : decide ((P.length : Int) < (P.length : Int)) = false := by simp
   rw [List.take_length] at hown
   have hconv := z36 wr _ _ _ _ hown
   go_wp2
   go_ret
   exact ⟨rfl, hb⟩
end

section
open Go.RowKit
set_option maxHeartbeats 16000000
theorem z0t (z : Int) (w : World) :
 Calls Tryz.prog 202 #[.int .i64 z] w fun e w' => e = .returned (.bool (ptZ z)) /\ w = w' := by
 by_cases h0 : 0 <= z
 ·by_cases h1 : z <= 1114111
  ·by_cases h2 : z < 55296
   ·have HE : Hid (ptZ z = true) := by show _ = _; unfold ptZ ptN; simp; omega
    have d0 : decide ((0 : Int) <= z) = true := jT h0
    have d1 : decide (z <= 1114111) = true := jT h1
    have d2 : decide (z < 55296) = true := jT h2
    go_enter Tryz.func202, Tryz.ntmps202
    go_wp2
    go_ret
    exact ⟨zbx HE.out.symm, rfl⟩
   ·by_cases h3 : 57343 < z
    ·have HE : Hid (ptZ z = true) := by show _ = _; unfold ptZ ptN; simp; omega
     have d0 : decide ((0 : Int) <= z) = true := jT h0
     have d1 : decide (z <= 1114111) = true := jT h1
     have d2 : decide (z < 55296) = false := jF h2
     have d3 : decide ((57343 : Int) < z) = true := jT h3
     go_enter Tryz.func202, Tryz.ntmps202
     go_wp2
     go_ret
     exact ⟨zbx HE.out.symm, rfl⟩
    ·have HE : Hid (ptZ z = false) := by show _ = _; unfold ptZ ptN; simp; omega
     have d0 : decide ((0 : Int) <= z) = true := jT h0
     have d1 : decide (z <= 1114111) = true := jT h1
     have d2 : decide (z < 55296) = false := jF h2
     have d3 : decide ((57343 : Int) < z) = false := jF h3
     go_enter Tryz.func202, Tryz.ntmps202
     go_wp2
     go_ret
     exact ⟨zbx HE.out.symm, rfl⟩
  ·have HE : Hid (ptZ z = false) := by show _ = _; unfold ptZ ptN; simp; omega
   have d0 : decide ((0 : Int) <= z) = true := jT h0
   have d1 : decide (z <= 1114111) = false := jF h1
   go_enter Tryz.func202, Tryz.ntmps202
   go_wp2
   go_ret
   exact ⟨zbx HE.out.symm, rfl⟩
 ·have HE : Hid (ptZ z = false) := by show _ = _; unfold ptZ; simp; omega
  have d0 : decide ((0 : Int) <= z) = false := jF h0
  go_enter Tryz.func202, Tryz.ntmps202
  go_wp2
  go_ret
  exact ⟨zbx HE.out.symm, rfl⟩
theorem z0u (d : Nat) (hd : d < 36) (w : World) :
 Calls Tryz.prog 218 #[.int .i64 (d : Int)] w fun e w' => e = .returned (.int .u8 ((zzz d).toNat : Int)) /\ w = w' := by
 by_cases h : d < 26
 ·have d1 : decide ((d : Int) < 26) = true := jT (by omega)
  have HE : Hid (((zzz d).toNat : Int) = 97 + (d : Int)) := by
   show _ = _
   unfold zzz
   rw [if_pos h, UInt8.toNat_ofNat']
   omega
  go_enter Tryz.func218, Tryz.ntmps218
  go_wp2
  go_ret
  exact ⟨zby HE.out.symm, rfl⟩
 ·have d1 : decide ((d : Int) < 26) = false := jF (by omega)
  have HE : Hid (((zzz d).toNat : Int) = 48 + ((d : Int) - 26)) := by
   show _ = _
   unfold zzz
   rw [if_neg h, UInt8.toNat_ofNat']
   omega
  go_enter Tryz.func218, Tryz.ntmps218
  go_wp2
  go_ret
  exact ⟨zby HE.out.symm, rfl⟩
def dvN (b : UInt8) : Nat := match zz0 b with
 | some d => d
 | none => 36
theorem z0v {b : UInt8} {d : Nat} (h : zz0 b = some d) : dvN b = d := by unfold dvN; rw [h]
theorem z0w {b : UInt8} (h : zz0 b = none) : dvN b = 36 := by unfold dvN; rw [h]
theorem z0x (b : UInt8) (w : World) :
 Calls Tryz.prog 230 #[.int .u8 (b.toNat : Int)] w fun e w' => e = .returned (.int .i64 (dvN b : Nat)) /\ w = w' := by
 have hlt := b.toNat_lt
 by_cases h1 : 97 <= b.toNat /\ b.toNat <= 122
 ·have HE : Hid (((dvN b : Nat) : Int) = (b.toNat : Int) - 97) := by show _ = _; unfold dvN zz0; rw [if_pos h1]; show ((b.toNat - 97 : Nat) : Int) = _; omega
  have d1 : decide ((97 : Int) <= (b.toNat : Int)) = true := jT (by omega)
  have d2 : decide ((b.toNat : Int) <= 122) = true := jT (by omega)
  go_enter Tryz.func230, Tryz.ntmps230
  go_wp2
  go_ret
  exact ⟨zby HE.out.symm, rfl⟩
 ·by_cases h2 : 65 <= b.toNat /\ b.toNat <= 90
  ·have HE : Hid (((dvN b : Nat) : Int) = (b.toNat : Int) - 65) := by show _ = _; unfold dvN zz0; rw [if_neg h1, if_pos h2]; show ((b.toNat - 65 : Nat) : Int) = _; omega
   have d1 : decide ((97 : Int) <= (b.toNat : Int)) = false := jF (by omega)
   have d2 : decide ((65 : Int) <= (b.toNat : Int)) = true := jT (by omega)
   have d3 : decide ((b.toNat : Int) <= 90) = true := jT (by omega)
   go_enter Tryz.func230, Tryz.ntmps230
   go_wp2
   go_ret
   exact ⟨zby HE.out.symm, rfl⟩
  ·by_cases h3 : 48 <= b.toNat /\ b.toNat <= 57
   ·have HE : Hid (((dvN b : Nat) : Int) = 26 + ((b.toNat : Int) - 48)) := by show _ = _; unfold dvN zz0; rw [if_neg h1, if_neg h2, if_pos h3]; show ((b.toNat - 22 : Nat) : Int) = _; omega
    have d1 : decide ((97 : Int) <= (b.toNat : Int)) = false := jF (by omega)
    have d2 : decide ((65 : Int) <= (b.toNat : Int)) = false := jF (by omega)
    have d3 : decide ((48 : Int) <= (b.toNat : Int)) = true := jT (by omega)
    have d4 : decide ((b.toNat : Int) <= 57) = true := jT (by omega)
    go_enter Tryz.func230, Tryz.ntmps230
    go_wp2
    go_ret
    exact ⟨zby HE.out.symm, rfl⟩
   ·have HE : Hid (((dvN b : Nat) : Int) = 36) := by show _ = _; unfold dvN zz0; rw [if_neg h1, if_neg h2, if_neg h3]; rfl
    have c1 : (decide ((97 : Int) <= (b.toNat : Int)) && decide ((b.toNat : Int) <= 122)) = false := by rw [Bool.and_eq_false_iff, decide_eq_false_iff_not, decide_eq_false_iff_not]; omega
    have c2 : (decide ((65 : Int) <= (b.toNat : Int)) && decide ((b.toNat : Int) <= 90)) = false := by rw [Bool.and_eq_false_iff, decide_eq_false_iff_not, decide_eq_false_iff_not]; omega
    have c3 : (decide ((48 : Int) <= (b.toNat : Int)) && decide ((b.toNat : Int) <= 57)) = false := by rw [Bool.and_eq_false_iff, decide_eq_false_iff_not, decide_eq_false_iff_not]; omega
    go_enter Tryz.func230, Tryz.ntmps230
    go_wp2
    all_goals (go_ret; exact ⟨zby HE.out.symm, rfl⟩)
theorem z0y (delta n : Nat) (first : Bool) (hd : delta <= 2199023255552) (hn : 1 <= n) (hn2 : n <= 1000000000) (w : World) :
 Calls Tryz.prog 206 #[.int .i64 (delta : Int), .int .i64 (n : Int), .bool first] w fun e w' => e = .returned (.int .i64 (adp delta n first : Nat)) /\ w = w' := by
 obtain ⟨R, hR⟩ : ∃ R, R = adp delta n first := ⟨_, rfl⟩
 rw [<- hR]
 have e700 : Int.tdiv (delta : Int) 700 = ((delta / 700 : Nat) : Int) := by rw [Int.tdiv_eq_ediv_of_nonneg (by omega)]; omega
 have e2 : Int.tdiv (delta : Int) 2 = ((delta / 2 : Nat) : Int) := by rw [Int.tdiv_eq_ediv_of_nonneg (by omega)]; omega
 have key : ∀ d0 : Nat, d0 <= 1099511627776 -> Int.tdiv (d0 : Int) (n : Int) = ((d0 / n : Nat) : Int) := by
  intro d0 _
  rw [Int.tdiv_eq_ediv_of_nonneg (by omega)]
  exact (Int.natCast_ediv d0 n).symm
 have hn0 : ¬ (n : Int) = 0 := by omega
 cases first with
 | true =>
   obtain ⟨d0, hd0⟩ : ∃ d0 : Nat, d0 = delta / 700 := ⟨_, rfl⟩
   have hb0 : d0 <= 1099511627776 := by omega
   have k0 := key d0 hb0
   obtain ⟨q, hq⟩ : ∃ q : Nat, q = d0 / n := ⟨_, rfl⟩
   have hqb : q <= d0 := by rw [hq]; exact Nat.div_le_self _ _
   rw [<- hq] at k0
   rw [<- hd0] at e700
   have HA : Hid (zzq (d0 + q) 0 = R) := jL (by rw [hR, hq, hd0]; rfl)
   clear key hq hd0 hR e2
   go_enter Tryz.func206, Tryz.ntmps206
   go_wp2
   go_loop [0, 7] (fun d k => ∃ D K : Nat, d = .int .i64 D /\ k = .int .i64 K /\ K + D <= 4398046511104 /\ Hid (zzq D K = R)) (fun d _ => (intOf d).toNat)
   case atStart => exact ⟨d0 + q, 0, by go_num, rfl, by omega, HA⟩
   case round =>
    obtain ⟨D, K, rfl, rfl, hDK, HG⟩ := hrel
    by_cases h455 : 455 < D
    ·have hc : decide ((455 : Int) < (D : Int)) = true := jT (by omega)
     have h35 : Int.tdiv (D : Int) 35 = ((D / 35 : Nat) : Int) := by rw [Int.tdiv_eq_ediv_of_nonneg (by omega)]; omega
     have HG2 : Hid (zzq (D / 35) (K + 36) = R) := by
      show _ = _
      rw [<- HG.out, zzq.eq_def D K, if_pos h455]
     go_wp2
     go_round
     case rel => exact ⟨D / 35, K + 36, by go_num, by go_num, by omega, HG2⟩
     case measure => simp [intOf]; omega
    ·have hc : decide ((455 : Int) < (D : Int)) = false := jF (by omega)
     have h38 : Int.tdiv (36 * (D : Int)) ((D : Int) + 38) = ((36 * D / (D + 38) : Nat) : Int) := by
      rw [Int.tdiv_eq_ediv_of_nonneg (by omega)]
      exact (Int.natCast_ediv (36 * D) (D + 38)).symm
     have hq2 : 36 * D / (D + 38) <= 36 := by
      refine Nat.div_le_of_le_mul ?_
      rw [Nat.add_mul]
      omega
     have hne : ¬ (D : Int) + 38 = 0 := by omega
     have HG2 : Hid (((K + 36 * D / (D + 38) : Nat) : Int) = (R : Int)) := by
      show _ = _
      rw [<- HG.out, zzq.eq_def D K, if_neg h455]
     obtain ⟨z, hz⟩ : ∃ z, z = 36 * D / (D + 38) := ⟨_, rfl⟩
     rw [<- hz] at h38 hq2 HG2
     clear hz
     go_wp2
     go_ret
     exact ⟨zby (by rw [<- HG2.out]; omega), rfl⟩
 | false =>
   obtain ⟨d0, hd0⟩ : ∃ d0 : Nat, d0 = delta / 2 := ⟨_, rfl⟩
   have hb0 : d0 <= 1099511627776 := by omega
   have k0 := key d0 hb0
   obtain ⟨q, hq⟩ : ∃ q : Nat, q = d0 / n := ⟨_, rfl⟩
   have hqb : q <= d0 := by rw [hq]; exact Nat.div_le_self _ _
   rw [<- hq] at k0
   rw [<- hd0] at e2
   have HA : Hid (zzq (d0 + q) 0 = R) := jL (by rw [hR, hq, hd0]; rfl)
   clear key hq hd0 hR e700
   go_enter Tryz.func206, Tryz.ntmps206
   go_wp2
   go_loop [0, 7] (fun d k => ∃ D K : Nat, d = .int .i64 D /\ k = .int .i64 K /\ K + D <= 4398046511104 /\ Hid (zzq D K = R)) (fun d _ => (intOf d).toNat)
   case atStart => exact ⟨d0 + q, 0, by go_num, rfl, by omega, HA⟩
   case round =>
    obtain ⟨D, K, rfl, rfl, hDK, HG⟩ := hrel
    by_cases h455 : 455 < D
    ·have hc : decide ((455 : Int) < (D : Int)) = true := jT (by omega)
     have h35 : Int.tdiv (D : Int) 35 = ((D / 35 : Nat) : Int) := by rw [Int.tdiv_eq_ediv_of_nonneg (by omega)]; omega
     have HG2 : Hid (zzq (D / 35) (K + 36) = R) := by
      show _ = _
      rw [<- HG.out, zzq.eq_def D K, if_pos h455]
     go_wp2
     go_round
     case rel => exact ⟨D / 35, K + 36, by go_num, by go_num, by omega, HG2⟩
     case measure => simp [intOf]; omega
    ·have hc : decide ((455 : Int) < (D : Int)) = false := jF (by omega)
     have h38 : Int.tdiv (36 * (D : Int)) ((D : Int) + 38) = ((36 * D / (D + 38) : Nat) : Int) := by
      rw [Int.tdiv_eq_ediv_of_nonneg (by omega)]
      exact (Int.natCast_ediv (36 * D) (D + 38)).symm
     have hq2 : 36 * D / (D + 38) <= 36 := by
      refine Nat.div_le_of_le_mul ?_
      rw [Nat.add_mul]
      omega
     have hne : ¬ (D : Int) + 38 = 0 := by omega
     have HG2 : Hid (((K + 36 * D / (D + 38) : Nat) : Int) = (R : Int)) := by
      show _ = _
      rw [<- HG.out, zzq.eq_def D K, if_neg h455]
     obtain ⟨z, hz⟩ : ∃ z, z = 36 * D / (D + 38) := ⟨_, rfl⟩
     rw [<- hz] at h38 hq2 HG2
     clear hz
     go_wp2
     go_ret
     exact ⟨zby (by rw [<- HG2.out]; omega), rfl⟩
end

section
open Go.RowKit
set_option maxHeartbeats 16000000
structure Clo (w : World) (B bk bb K bias : Nat) : Prop where
 lk : B <= bk
 ne : bk ≠ bb
 hk : w.heap[bk]? = some (.cells #[.int .i64 ((36 * K : Nat) : Int)] 3 (0, 0))
 hb : w.heap[bb]? = some (.cells #[.int .i64 (bias : Int)] 3 (0, 0))
theorem Clo.mono {w : World} {B B' bk bb K bias : Nat} (h : Clo w B bk bb K bias) (hB : B' <= B) : Clo w B' bk bb K bias := ⟨Nat.le_trans hB h.lk, h.ne, h.hk, h.hb⟩
theorem Clo.kept {w w' : World} {B bk bb K bias : Nat} {row : Option Nat} (h : Clo w B bk bb K bias) (hg : w.grownBy w' row) (h1 : some bk ≠ row) (h2 : some bb ≠ row) : Clo w' B bk bb K bias :=
 ⟨h.lk, h.ne, (hg.block bk (lt_of_block h.hk) h1).trans h.hk, (hg.block bb (lt_of_block h.hb) h2).trans h.hb⟩
theorem z0z {w : World} {base b n : Nat} {v u : Value} {xs : List Value} (h : w.ownsRow base 5 1 v n xs) (hb : w.heap[b]? = some (.cells #[u] 3 (0, 0))) : some b ≠ v.ownBlock := by
 rcases h.2 with ⟨rfl, _⟩ | ⟨g, cap, cur, rfl, _, hg, _⟩
 ·simp [Value.ownBlock]
 ·intro he
  simp [Value.ownBlock] at he
  subst he
  rw [hb] at hg
  simp at hg
theorem z00 (w : World) (b : Nat) (u : Value) : w.grownBy (w.setCell ⟨b, 0, none⟩ u) (some b) :=
 ⟨rfl, rfl, rfl, by simp [World.setCell], fun k _ hne => Below.heap_setCell _ _ _ _ (fun e => hne (by rw [e]))⟩
set_option maxRecDepth 20000 in
theorem z01 (bias : Nat) (_hb : bias <= 1000000) (w : World) :
 Calls Tryz.prog 205 #[.int .i64 (bias : Int)] w fun e w' => (∃ bk bb, e = .returned (.func (.func 219) #[] #[.pointer (some ⟨bk, 0, none⟩), .pointer (some ⟨bb, 0, none⟩)]) /\ Clo w' w.heap.size bk bb 0 bias) /\ Below w.heap.size w w' := by
 have hmf : ∀ (fn : Fn) (first cap : Array Value) (w : World), (Instr.makeFunc fn first cap).run Tryz.prog w = .ok (.func fn first cap) w := fun _ _ _ _ => rfl
 go_enter Tryz.func205, Tryz.ntmps205
 go_wp2
 go_ret
 refine ⟨⟨_, _, rfl, ⟨by omega, by omega, ?_, ?_⟩⟩, ((Below.refl _ _).alloc jH _).alloc (by simp) _⟩
 ·show ((w.heap.push _).push _)[w.heap.size + 1]? = _
  rw [Array.getElem?_push, if_pos (by simp)]
  rfl
 ·show ((w.heap.push _).push _)[w.heap.size]? = _
  rw [Array.getElem?_push, if_neg (by simp), Array.getElem?_push, if_pos rfl]
theorem z02 (K bias : Nat) (x : Int) (hx : max ((36 : Int) * K + 36 - bias) 1 = x) : min x 26 = ((thr K bias : Nat) : Int) := by rw [<- hx]; unfold thr; omega
set_option maxRecDepth 20000 in
theorem z03 (w : World) (B bk bb K bias : Nat) (hc : Clo w B bk bb K bias) (hK : K <= 100000000) (hbi : bias <= 1000000) :
 Calls Tryz.prog 219 #[.pointer (some ⟨bk, 0, none⟩), .pointer (some ⟨bb, 0, none⟩)] w fun e w' => e = .returned (.int .i64 (thr K bias : Nat)) /\ Clo w' B bk bb (K + 1) bias /\ w.grownBy w' (some bk) := by
 have c1 := cell_of_one hc.hk
 have c2 := cell_of_one hc.hb
 have f1 := free_of_one hc.hk
 obtain ⟨z, hz⟩ : ∃ z : Int, z = ((36 * K : Nat) : Int) := ⟨_, rfl⟩
 rw [<- hz] at c1
 have hne := hc.ne
 have c3 : (w.setCell ⟨bk, 0, none⟩ (.int .i64 (z + 36))).cell? ⟨bk, 0, none⟩ = some (.int .i64 (z + 36)) := cell_of_one (one_setCell hc.hk)
 have c4 : (w.setCell ⟨bk, 0, none⟩ (.int .i64 (z + 36))).cell? ⟨bb, 0, none⟩ = some (.int .i64 (bias : Int)) := by
  rw [World.cell?_of_block (w := w) (Below.heap_setCell _ _ _ _ (fun e => hne e.symm))]
  exact c2
 obtain ⟨x, hx⟩ : ∃ x, max (z + 36 - (bias : Int)) (1 : Int) = x := ⟨_, rfl⟩
 have hy : min x (26 : Int) = (thr K bias : Nat) := z02 K bias x (by rw [<- hx, hz]; omega)
 have hmax : ∀ (W : World) ts ty, (Builtin.max_ ts ty #[.int .i64 (z + 36 - (bias : Int)), .int .i64 1]).run Tryz.prog W = .ok (.int .i64 x) W := fun W ts ty => zu4 W ts ty _ _ _ hx
 have hmin : ∀ (W : World) ts ty, (Builtin.min_ ts ty #[.int .i64 x, .int .i64 26]).run Tryz.prog W = .ok (.int .i64 (thr K bias : Nat)) W := fun W ts ty => zu3 W ts ty _ _ _ hy
 have hz0 : 0 <= z := by omega
 have hz1 : z <= 3600000000 := by omega
 have HC : Hid (Clo (w.setCell ⟨bk, 0, none⟩ (.int .i64 (z + 36))) B bk bb (K + 1) bias) := by
  refine jL ⟨hc.lk, hne, ?_, (Below.heap_setCell _ _ _ _ (fun e => hne e.symm)).trans hc.hb⟩
  have := one_setCell (u := .int .i64 (z + 36)) hc.hk
  rw [show ((36 * (K + 1) : Nat) : Int) = z + 36 by omega]
  exact this
 clear hx hy hz hc
 go_enter Tryz.func219, Tryz.ntmps219
 go_wp2
 go_ret
 exact ⟨rfl, HC.out, z00 _ _ _⟩
set_option maxRecDepth 20000 in
theorem z04 (B : Nat) (w0 w : World) (v : Value) (X : List UInt8) (N : Nat) (hN : N = X.length) (e bias bk bb : Nat) (hown : w.ownsRow B 5 1 v N (X.map bv)) (hc : Clo w B bk bb 0 bias) (hb : Below B w0 w) (hB : B <= w0.heap.size) (he : e <= 17179869184) (hbi : bias <= 1000) (hX : N <= 4000) :
 Calls Tryz.prog 204 #[v, .int .i64 (e : Int), .func (.func 219) #[] #[.pointer (some ⟨bk, 0, none⟩), .pointer (some ⟨bb, 0, none⟩)]] w fun e' w' => (∃ v', e' = .returned v' /\ w'.ownsRow B 5 1 v' (N + (zzs e 0 bias).length) ((X ++ (zzs e 0 bias).map zzz).map bv)) /\ Below B w0 w' := by
 obtain ⟨i5, hi5, hz0, hz1, hz2⟩ := info_parts z34
 have hgl : (zzs e 0 bias).length <= 12 := zzx 11 e 0 bias (Nat.lt_of_le_of_lt he (by decide))
 have HGL := jL hgl
 have HC0 := jL hc
 clear hgl hc
 go_enter Tryz.func204, Tryz.ntmps204
 go_wp2_with fail
 go_loopw [0, 1] (fun v q wr => ∃ (Q K : Nat) (L : List Nat), q = .int .i64 Q /\ Q <= 17179869184 /\ K <= 12 /\ Hid (K = L.length) /\ Hid (L ++ zzs Q K bias = zzs e 0 bias) /\
  wr.ownsRow B 5 1 v (N + K) ((X ++ L.map zzz).map bv) /\ Hid (Clo wr B bk bb K bias) /\ Below B w0 wr) (fun _ q _ => (intOf q).toNat)
 case atStart => exact ⟨e, 0, [], rfl, he, by omega, jL rfl, jL rfl, by simpa using hown, HC0, hb⟩
 case round =>
  clear hown hb
  obtain ⟨Q, K, L, rfl, hQ, hK, HK, HLG, hown, HC, hb⟩ := hrel
  have ht := zzp K bias
  have cT := fun h1 h2 => z03 wr B bk bb K bias HC.out h1 h2
  replace cT := cT (by omega) (by omega)
  have hlenG : L.length + (zzs Q K bias).length <= 12 := by have := HGL.out; rw [<- HLG.out, List.length_append] at this; exact this
  have hno := z0z hown HC.out.hk
  have HNO := jL hno
  have HLK := jL HC.out.lk
  clear hno
  by_cases hqt : Q < thr K bias
  ·have hone := zzt hqt
   have hge : decide ((Q : Int) < ((thr K bias : Nat) : Int)) = true := jT (by omega)
   have hgeN : decide (Q < thr K bias) = true := jT hqt
   have cD := z0u Q (by omega)
   have HLE : Hid (X ++ (zzs e 0 bias).map zzz = (X ++ L.map zzz) ++ [zzz Q]) := by
    show _ = _
    rw [<- HLG.out, hone, List.map_append, List.append_assoc]
    rfl
   have HLL : Hid (N + (zzs e 0 bias).length = N + K + 1) := by
    show _ = _
    rw [<- HLG.out, hone, List.length_append, HK.out]
    rfl
   generalize thr K bias = t at *
   clear hone hlenG
   go_wp2_with fail
   refine cT.mono ?_
   rintro e' w1 ⟨rfl, hc1, hg1⟩
   have hown1 := hown.kept hg1 (.inr (fun h => HNO.out h.symm))
   have hb1 := hb.grown hg1 (Nat.le_trans hB hb.size) (fun k hk => by injection hk with hk; rw [<- hk]; exact HLK.out)
   clear hg1 hown hb hc1
   go_wp2_with (first
    | (go_at_call 218; refine (cD _).mono ?_; rintro e w' ⟨rfl, rfl⟩)
    | (at_builtin; refine zcq w1 rfl _ _ 72 rfl B 5 i5 (.int .u8 0) 1 z31 hi5 hz0 hz1 hz2 rfl _ (by exact rfl) _ _ _ (by exact rfl) hown1 (by exact rfl) (by unfold maxLen; omega) (by omega) hb1 hB ?_; intro v' w' hown' hb' _))
   go_ret
   refine ⟨⟨_, rfl, ?_⟩, hb'⟩
   rw [HLE.out, HLL.out, List.map_append]
   exact hown'
  ·have hmore := zzu hqt
   have hge : decide ((Q : Int) < ((thr K bias : Nat) : Int)) = false := jF (by omega)
   have hgeN : decide (Q < thr K bias) = false := jF hqt
   have hless := zzr Q _ hqt ht.1
   obtain ⟨t, hte⟩ : ∃ t, t = thr K bias := ⟨_, rfl⟩
   rw [<- hte] at hmore hge hgeN hless ht hqt cT
   obtain ⟨rm, hrm⟩ : ∃ rm, rm = (Q - t) % (36 - t) := ⟨_, rfl⟩
   obtain ⟨Q2, hQ2⟩ : ∃ Q2, Q2 = (Q - t) / (36 - t) := ⟨_, rfl⟩
   have hrmb : rm < 36 - t := by rw [hrm]; exact Nat.mod_lt _ (by omega)
   have hmod : Int.tmod ((Q : Int) - (t : Int)) (36 - (t : Int)) = (rm : Int) := by
    rw [Int.tmod_eq_emod_of_nonneg (by omega), hrm, show ((Q : Int) - (t : Int)) = ((Q - t : Nat) : Int) by omega, show (36 - (t : Int)) = ((36 - t : Nat) : Int) by omega]
    exact (Int.natCast_emod _ _).symm
   have hdiv : Int.tdiv ((Q : Int) - (t : Int)) (36 - (t : Int)) = (Q2 : Int) := by
    rw [Int.tdiv_eq_ediv_of_nonneg (by omega), hQ2, show ((Q : Int) - (t : Int)) = ((Q - t : Nat) : Int) by omega, show (36 - (t : Int)) = ((36 - t : Nat) : Int) by omega]
    exact (Int.natCast_ediv _ _).symm
   have hne0 : ¬ (36 - (t : Int) = 0) := by omega
   rw [<- hrm, <- hQ2] at hmore
   rw [<- hQ2] at hless
   have cD := z0u (t + rm) (by omega)
   rw [show ((t + rm : Nat) : Int) = (t : Int) + (rm : Int) by omega] at cD
   have HL2 : Hid ((L ++ [t + rm]) ++ zzs Q2 (K + 1) bias = zzs e 0 bias) := by
    show _ = _
    rw [<- HLG.out, hmore, List.append_assoc]
    rfl
   have hK12 : K + 1 <= 12 := by
    rw [hmore, List.length_cons] at hlenG
    have := HK.out
    omega
   have HXL : Hid ((X ++ (L ++ [t + rm]).map zzz).map bv = (X ++ L.map zzz).map bv ++ [bv (zzz (t + rm))]) := by
    show _ = _
    simp
   clear hmore hrm hQ2 hlenG hte hqt
   go_wp2_with fail
   refine cT.mono ?_
   rintro e' w1 ⟨rfl, hc1, hg1⟩
   have hown1 := hown.kept hg1 (.inr (fun h => HNO.out h.symm))
   have hb1 := hb.grown hg1 (Nat.le_trans hB hb.size) (fun k hk => by injection hk with hk; rw [<- hk]; exact HLK.out)
   have HN1 := jL (z0z hown1 hc1.hk)
   have HN2 := jL (z0z hown1 hc1.hb)
   have HC1 := jL hc1
   clear hg1 hown hb hc1
   go_wp2_with (first
    | (go_at_call 218; refine (cD _).mono ?_; rintro e w' ⟨rfl, rfl⟩)
    | (at_builtin; refine zcq w1 rfl _ _ 72 rfl B 5 i5 (.int .u8 0) 1 z31 hi5 hz0 hz1 hz2 rfl _ (by exact rfl) _ _ _ (by exact rfl) hown1 (by exact rfl) (by unfold maxLen; omega) (by omega) hb1 hB ?_; intro v' w' hown' hb' hg'))
   go_roundw
   case rel =>
    refine ⟨Q2, K + 1, L ++ [t + rm], rfl, by omega, hK12, ?_, HL2, ?_, jL (HC1.out.kept hg' HN1.out HN2.out), hb'⟩
    ·show _ = _
     rw [List.length_append, <- HK.out]
     rfl
    ·rw [HXL.out]
     exact hown'
   case measure => simp [intOf]; omega
end

section
open Go.RowKit
set_option maxHeartbeats 16000000
def z1j : Except Nat (Nat × List UInt8) -> Nat
 | .error c => c
 | .ok _ => 0
def z1k : Except Nat (Nat × List UInt8) -> Nat
 | .error _ => 0
 | .ok (j, _) => j
def z1l (n : Nat) : Except Nat (Nat × List UInt8) -> Nat
 | .error _ => 0
 | .ok (_, r) => n - r.length
theorem z1m {x : Except Nat (Nat × List UInt8)} {c n : Nat} (h : x = .error c) : z1j x = c /\ z1k x = 0 /\ z1l n x = 0 := by subst h; exact ⟨rfl, rfl, rfl⟩
theorem z1n {x : Except Nat (Nat × List UInt8)} {j n : Nat} {r : List UInt8} (h : x = .ok (j, r)) : z1j x = 0 /\ z1k x = j /\ z1l n x = n - r.length := by subst h; exact ⟨rfl, rfl, rfl⟩
theorem z1o {a a' b b' c c' : Nat} (h1 : a = a') (h2 : b = b') (h3 : c = c') : Ending.returned (.tuple #[.int .i64 (a : Int), .int .i64 (b : Int), .int .i64 (c : Int)]) = .returned (.tuple #[.int .i64 (a' : Int), .int .i64 (b' : Int), .int .i64 (c' : Int)]) := by rw [h1, h2, h3]
set_option maxRecDepth 20000 in
theorem z1p (B : Nat) (w : World) (s : ByteArray) (I bias bk bb : Nat) (hc : Clo w B bk bb 0 bias) (hB : B <= w.heap.size) (hI : I <= 1000000) (hbi : bias <= 1000) (hs : s.size <= 1000000) :
 Calls Tryz.prog 224 #[.int .i64 (I : Int), .string s, .func (.func 219) #[] #[.pointer (some ⟨bk, 0, none⟩), .pointer (some ⟨bb, 0, none⟩)]] w fun e w' =>
  e = .returned (.tuple #[.int .i64 (z1k (z0c (ls s) bias 0 1 I) : Nat), .int .i64 (z1l s.size (z0c (ls s) bias 0 1 I) : Nat), .int .i64 (z1j (z0c (ls s) bias 0 1 I) : Nat)]) /\ Below B w w' := by
 obtain ⟨R, hR⟩ : ∃ R, R = z0c (ls s) bias 0 1 I := ⟨_, rfl⟩
 rw [<- hR]
 have HR := jL hR
 have HC0 := jL hc
 clear hR hc
 go_enter Tryz.func224, Tryz.ntmps224
 go_wp2_with fail
 go_loopw [0, 9, 15] (fun iv wv av wr => ∃ (a i' w' : Nat), iv = .int .i64 i' /\ wv = .int .i64 w' /\ av = .int .i64 a /\ a <= s.size /\ i' <= 1099511627776 /\ w' <= 1099511627776 /\ Hid (R = z0c ((ls s).drop a) bias a w' i') /\ Hid (Clo wr B bk bb a bias) /\ Below B w wr) (fun _ _ av _ => s.size - (intOf av).toNat)
 case atStart => exact ⟨0, I, 1, rfl, rfl, rfl, Nat.zero_le _, by omega, by omega, HR, HC0, Below.refl _ _⟩
 case round =>
  obtain ⟨a', i', w', rfl, rfl, rfl, ha', hi', hw', HRD, HC, hb⟩ := hrel
  by_cases hlt5 : a' < s.size
  ·have hged : decide ((a' : Int) < (s.size : Int)) = true := jT (by omega)
   have hgeN : decide (a' < s.size) = true := jT hlt5
   have hdr := zcc s a' hlt5
   have cV := z0x s[a']
   cases hpv : zz0 s[a'] with
   | none =>
     rw [z0w hpv] at cV
     obtain ⟨e1, e2, e3⟩ := z1m (n := s.size) (show R = .error 4 by rw [HRD.out, hdr, z0c, hpv])
     have HE := jL e1
     have HE2 := jL e2
     have HE3 := jL e3
     clear hdr hpv e1 e2 e3
     go_wp2_with (go_at_call 230; refine (cV _).mono ?_; rintro e w' ⟨rfl, rfl⟩)
     go_ret3
     exact ⟨z1o HE2.out.symm HE3.out.symm HE.out.symm, hb⟩
   | some d =>
     rw [z0v hpv] at cV
     have hd36 := zz3 hpv
     have hdn : ((d : Int) == 36) = false := by rw [beq_eq_false_iff_ne]; omega
     have hdnN : (d == 36) = false := by rw [beq_eq_false_iff_ne]; omega
     have hrd : R = if 1099511627776 < i' + d * w' then .error 19 else if d < thr a' bias then .ok (i' + d * w', (ls s).drop (a' + 1)) else if 1099511627776 < w' * (36 - thr a' bias) then .error 19 else z0c ((ls s).drop (a' + 1)) bias (a' + 1) (w' * (36 - thr a' bias)) (i' + d * w') := by rw [HRD.out, hdr, z0c, hpv]
     have hdw : (d : Int) * (w' : Int) = ((d * w' : Nat) : Int) := by simp
     have hdwb : d * w' <= 35 * 1099511627776 := Nat.mul_le_mul (by omega) hw'
     obtain ⟨i2, hi2⟩ : ∃ i2, i2 = i' + d * w' := ⟨_, rfl⟩
     rw [<- hi2] at hrd
     have hdw0 : 0 <= (d : Int) * (w' : Int) := by omega
     have hdw1 : (d : Int) * (w' : Int) <= 38482906972160 := by omega
     have hi2i : (i' : Int) + (d : Int) * (w' : Int) = (i2 : Int) := by omega
     have hi2b : i2 <= 39582418599936 := by omega
     have ht := zzp a' bias
     have cT := z03 wr B bk bb a' bias HC.out (by omega) (by omega)
     have HRD2 := jL hrd
     have HLK := jL HC.out.lk
     clear hdr hpv hdw hdwb hi2 hrd
     by_cases hov : 1099511627776 < i2
     ·have hovd : decide ((1099511627776 : Int) < (i2 : Int)) = true := jT (by omega)
      have hovN : decide (1099511627776 < i2) = true := jT hov
      obtain ⟨e1, e2, e3⟩ := z1m (n := s.size) (show R = .error 19 by rw [HRD2.out, if_pos hov])
      have HE := jL e1
      have HE2 := jL e2
      have HE3 := jL e3
      clear e1 e2 e3
      go_wp2_with (go_at_call 230; refine (cV _).mono ?_; rintro e w' ⟨rfl, rfl⟩)
      go_ret3
      exact ⟨z1o HE2.out.symm HE3.out.symm HE.out.symm, hb⟩
     ·have hovd : decide ((1099511627776 : Int) < (i2 : Int)) = false := jF (by omega)
      have hovN : decide (1099511627776 < i2) = false := jF hov
      obtain ⟨t, hte⟩ : ∃ t, t = thr a' bias := ⟨_, rfl⟩
      rw [<- hte] at HRD2 ht cT
      clear hte
      by_cases hdt : d < t
      ·have hdtd : decide ((d : Int) < (t : Int)) = true := jT (by omega)
       have hdtN : decide (d < t) = true := jT hdt
       obtain ⟨e1, e2, e3⟩ := z1n (n := s.size) (show R = .ok (i2, (ls s).drop (a' + 1)) by rw [HRD2.out, if_neg hov, if_pos hdt])
       rw [List.length_drop, zb4, show s.size - (s.size - (a' + 1)) = a' + 1 by omega] at e3
       have HE := jL e1
       have HE2 := jL e2
       have HE3 := jL e3
       clear e1 e2 e3
       go_wp2_with (go_at_call 230; refine (cV _).mono ?_; rintro e w' ⟨rfl, rfl⟩)
       refine cT.mono ?_
       rintro e w1 ⟨rfl, hc1, hg1⟩
       have hb1 := hb.grown hg1 (Nat.le_trans hB hb.size) (fun k hk => by injection hk with hk; rw [<- hk]; exact HLK.out)
       clear hc1 hg1 hb
       go_wp2
       go_ret3
       exact ⟨z1o HE2.out.symm HE3.out.symm HE.out.symm, hb1⟩
      ·have hdtd : decide ((d : Int) < (t : Int)) = false := jF (by omega)
       have hdtN : decide (d < t) = false := jF hdt
       have hwt : (w' : Int) * (36 - (t : Int)) = ((w' * (36 - t) : Nat) : Int) := by rw [Int.natCast_mul, Int.natCast_sub (by omega)]; rfl
       have hwtb : w' * (36 - t) <= 1099511627776 * 35 := Nat.mul_le_mul hw' (by omega)
       obtain ⟨w2, hw2⟩ : ∃ w2, w2 = w' * (36 - t) := ⟨_, rfl⟩
       rw [<- hw2] at hwt hwtb
       have hwt0 : 0 <= (w' : Int) * (36 - (t : Int)) := by omega
       have hwt1 : (w' : Int) * (36 - (t : Int)) <= 38482906972160 := by omega
       have HRD3 : Hid (R = if 1099511627776 < w2 then .error 19 else z0c ((ls s).drop (a' + 1)) bias (a' + 1) w2 i2) := by
        show _ = _
        rw [HRD2.out, if_neg hov, if_neg hdt, <- hw2]
       clear hw2 HRD2
       by_cases hwo : 1099511627776 < w2
       ·have hwod : decide ((1099511627776 : Int) < (w2 : Int)) = true := jT (by omega)
        have hwoN : decide (1099511627776 < w2) = true := jT hwo
        obtain ⟨e1, e2, e3⟩ := z1m (n := s.size) (show R = .error 19 by rw [HRD3.out, if_pos hwo])
        have HE := jL e1
        have HE2 := jL e2
        have HE3 := jL e3
        clear e1 e2 e3
        go_wp2_with (go_at_call 230; refine (cV _).mono ?_; rintro e w' ⟨rfl, rfl⟩)
        refine cT.mono ?_
        rintro e w1 ⟨rfl, hc1, hg1⟩
        have hb1 := hb.grown hg1 (Nat.le_trans hB hb.size) (fun k hk => by injection hk with hk; rw [<- hk]; exact HLK.out)
        clear hc1 hg1 hb
        go_wp2
        go_ret3
        exact ⟨z1o HE2.out.symm HE3.out.symm HE.out.symm, hb1⟩
       ·have hwod : decide ((1099511627776 : Int) < (w2 : Int)) = false := jF (by omega)
        have hwoN : decide (1099511627776 < w2) = false := jF hwo
        have HRD4 : Hid (R = z0c ((ls s).drop (a' + 1)) bias (a' + 1) w2 i2) := by
         show _ = _
         rw [HRD3.out, if_neg hwo]
        go_wp2_with (go_at_call 230; refine (cV _).mono ?_; rintro e w' ⟨rfl, rfl⟩)
        refine cT.mono ?_
        rintro e w1 ⟨rfl, hc1, hg1⟩
        have hb1 := hb.grown hg1 (Nat.le_trans hB hb.size) (fun k hk => by injection hk with hk; rw [<- hk]; exact HLK.out)
        have HC1 := jL hc1
        clear hc1 hg1 hb
        go_wp2
        go_roundw
        case rel => exact ⟨a' + 1, i2, w2, by go_num, by go_num, by go_num, by omega, by omega, by omega, HRD4, HC1, hb1⟩
        case measure => simp [intOf]; omega
  ·obtain rfl : a' = s.size := by omega
   have hged : decide ((s.size : Int) < (s.size : Int)) = false := by simp
   obtain ⟨e1, e2, e3⟩ := z1m (n := s.size) (show R = .error 4 by rw [HRD.out, zcd, z0c])
   have HE := jL e1
   have HE2 := jL e2
   have HE3 := jL e3
   clear e1 e2 e3
   go_wp2
   go_ret3
   exact ⟨z1o HE2.out.symm HE3.out.symm HE.out.symm, hb⟩
end

end Go.Proofs.YtekaljeicfjkjaaGreatDoor
