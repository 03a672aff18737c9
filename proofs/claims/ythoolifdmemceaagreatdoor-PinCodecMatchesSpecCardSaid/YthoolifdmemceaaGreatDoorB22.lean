/-
Contract of package punycode's Encode, of any numbers.
Contracts of package label's functions properPoints, ToUnicode, Valid, ToASCII.
What label.ToUnicode and label.Valid do.
What the program's functions do: numbers, labels, names.
-/
import Derived.Test.YthoolifdmemceaaGreatDoorB13
import Derived.Test.YthoolifdmemceaaGreatDoorB18
import Derived.Test.YthoolifdmemceaaGreatDoorB19
import Derived.Test.YthoolifdmemceaaGreatDoorB10
import Derived.Deep.LoopGhost
import Derived.BigQuiet
import Derived.Deep.CutRange
import Derived.Deep.CutBlock
import Derived.Test.YthoolifdmemceaaGreatDoorB11
import Derived.Test.YthoolifdmemceaaGreatDoorB17
import Derived.Test.YthoolifdmemceaaGreatDoorB21
namespace Go.Proofs.YthoolifdmemceaaGreatDoor
section
open Go.RowKit

set_option maxRecDepth 20000 in
set_option maxHeartbeats 8000000 in
theorem enc_ok (P : List Nat) (hP : ∀ p ∈ P, ptN p = true) (hl : P.length ≤ 256) (A : Option Addr) (len cap B : Nat) (w : World) (hA : Has w B A len (P.map iv)) (hB : B ≤ w.heap.size) :
    Calls Tryz.prog 78 #[.slice A len cap] w fun e w' => e = .returned (.tuple #[.string (bs (encB P)), .int .i64 0]) ∧ Below w.heap.size w w' := by
  obtain ⟨i5, hi5, hz0, hz1, hz2⟩ := info_parts infoU8
  have hlen : len = P.length := by have := hA.1; simpa using this.symm
  subst hlen
  have H := Lib.hid hA
  have HP := Lib.hid hP
  clear hA hP
  have hd256 : decide ((256 : Int) < (P.length : Int)) = false := decide_eq_false (by omega)
  go_enter Tryz.func78, Tryz.ntmps78
  go_wp2
  go_loopw [4, 20] (fun v i wr => ∃ (k : Nat) (O : List Nat), k ≤ P.length ∧ i = .int .i64 k ∧ Hid (O = basicN (P.take k)) ∧ O.length ≤ 256 ∧ wr.ownsRow w.heap.size 5 1 v O.length ((O.map UInt8.ofNat).map bv) ∧ Below w.heap.size w wr) (fun _ i _ => P.length - (intOf i).toNat)
  case atStart => exact ⟨0, [], Nat.zero_le _, rfl, Lib.hid rfl, by simp, World.ownsRow_nil _ _ _ _, Below.refl _ _⟩
  case round =>
    obtain ⟨k, O, hk, rfl, HO, hOl, hown, hb⟩ := hrel
    by_cases hlt : k < P.length
    · obtain ⟨b1, o1, rfl, l1, d1⟩ := H.out.2 (by omega)
      have g1 := cell_iv H.out hb hB k hlt hlt
      have hkd : decide ((k : Int) < (P.length : Int)) = true := decide_eq_true (by omega)
      have hpt : ptZ ((P[k] : Nat) : Int) = true := by rw [ptZ_nat]; exact HP.out _ (List.getElem_mem hlt)
      have hple : P[k] ≤ 1114111 := ptN_le (HP.out _ (List.getElem_mem hlt))
      have c1 := isPt_any ((P[k] : Nat) : Int)
      have hbt := basicN_take P k hlt
      have hbl := basicN_len (P.take (k + 1))
      have hbl2 : (P.take (k + 1)).length ≤ 256 := by rw [List.length_take]; omega
      obtain ⟨p, hp⟩ : ∃ p, p = P[k] := ⟨_, rfl⟩
      rw [← hp] at g1 c1 hple hbt hpt
      rw [hpt] at c1
      rw [← HO.out] at hbt
      clear d1 hp hpt
      by_cases h128 : p < 128
      · have hd : decide ((p : Int) < 128) = true := decide_eq_true (by omega)
        rw [if_pos h128] at hbt
        have HBV := Lib.hid (bv_ofNat h128)
        have HO2 := Lib.hid hbt.symm
        rw [hbt, List.length_append, List.length_singleton] at hbl
        clear hbt
        go_wp2_with (first | (go_at_call 90; refine (c1 _).mono ?_; rintro e w' ⟨rfl, rfl⟩) | (at_builtin; refine wpList_app_one wr rfl _ _ 24 rfl w.heap.size 5 i5 (.int .u8 0) 1 tyBs hi5 hz0 hz1 hz2 rfl _ (by exact rfl) _ _ _ (by exact rfl) hown (by exact rfl) (by unfold maxLen; omega) (by omega) hb (Nat.le_refl _) ?_; intro v' w' hown' hb' _))
        go_roundw
        case rel =>
          refine ⟨k + 1, O ++ [p], by omega, by go_num, HO2, by simp; omega, ?_, hb'⟩
          rw [List.map_append, List.map_append, List.length_append]
          simp only [List.map_cons, List.map_nil, HBV.out, List.length_singleton]
          exact hown'
        case measure => simp [intOf]; omega
      · have hd : decide ((p : Int) < 128) = false := decide_eq_false (by omega)
        rw [if_neg h128, List.append_nil] at hbt
        have HO2 := Lib.hid hbt.symm
        clear hbt
        go_wp2_with (go_at_call 90; refine (c1 _).mono ?_; rintro e w' ⟨rfl, rfl⟩)
        go_roundw
        case rel => exact ⟨k + 1, O, by omega, by go_num, HO2, by omega, hown, hb⟩
        case measure => simp [intOf]; omega
    · obtain rfl : k = P.length := by omega
      have hkd : decide ((P.length : Int) < (P.length : Int)) = false := by simp
      have HO2 : Hid (O = basicN P) := by show _ = _; rw [HO.out, List.take_length]
      clear HO
      obtain ⟨A4, c4, rfl, _, _⟩ := Has.of_own hown
      have hO0 : (basicN P = []) = (O = []) := by rw [HO2.out]
      go_upto_if 38 with fail
      go_cut [4] from 38 to 41 (fun v wx => ∃ X : List UInt8, Hid (X = outB P []) ∧ X.length ≤ 257 ∧ wx.ownsRow w.heap.size 5 1 v X.length (X.map bv) ∧ Below w.heap.size w wx)
      case first =>
        by_cases h0 : O = []
        · have hd0 : decide ((0 : Int) < (O.length : Int)) = false := by rw [h0]; rfl
          have hdN : ¬ (0 < O.length) := by rw [h0]; simp
          have hdB : decide (0 < O.length) = false := by rw [h0]; rfl
          go_wp2_with fail
          go_meet
          refine ⟨O.map UInt8.ofNat, ?_, by simp; omega, ?_, hb⟩
          · show _ = _
            rw [outB_nil, ← HO2.out, if_pos h0, List.append_nil]
          · rw [List.length_map]
            exact hown
        · have hdN : 0 < O.length := List.length_pos_iff.2 h0
          have hd0 : decide ((0 : Int) < (O.length : Int)) = true := decide_eq_true (by omega)
          have hdB : decide (0 < O.length) = true := decide_eq_true hdN
          go_wp2_with (at_builtin; refine wpList_app_one wr rfl _ _ 24 rfl w.heap.size 5 i5 (.int .u8 0) 1 tyBs hi5 hz0 hz1 hz2 rfl _ (by exact rfl) _ _ _ (by exact rfl) hown (by exact rfl) (by unfold maxLen; omega) (by omega) hb (Nat.le_refl _) ?_; intro v' w' hown' hb' _)
          go_meet
          refine ⟨O.map UInt8.ofNat ++ [45], ?_, by simp; omega, ?_, hb'⟩
          · show _ = _
            rw [outB_nil, ← HO2.out, if_neg h0]
          · rw [List.map_append, List.length_append, List.length_map]
            exact hown'
      case rest =>
      obtain ⟨X, HX, hXl, hown2, hb2⟩ := hcut
      have hbas : O.length = (basicN P).length := by rw [HO2.out]
      obtain ⟨bas, hbs⟩ : ∃ bas, bas = O.length := ⟨_, rfl⟩
      rw [← hbs] at hOl hbas ⊢
      have HBAS := Lib.hid hbas
      clear hown hb hO0 HO2 hbs hbas
      go_wp2_with fail
      go_loopg [4, 8, 9, 10, 11] (P.length - bas) (fun g v nn ee bi dn wr => ∃ (D : List Nat) (d0 n0 e0 b0 : Nat) (X : List UInt8), g = P.length - d0 ∧ dn = .int .i64 d0 ∧ nn = .int .i64 n0 ∧ ee = .int .i64 e0 ∧ bi = .int .i64 b0 ∧ d0 ≤ 256 ∧ n0 ≤ 1114112 ∧ e0 ≤ 17179869184 ∧ b0 ≤ 1000 ∧ X.length ≤ 3400 ∧
        Hid (EncAt P D n0 e0) ∧ Hid (d0 = (stP P D).out.length) ∧ Hid (b0 = biasB P D) ∧ Hid (X = outB P D) ∧ wr.ownsRow w.heap.size 5 1 v X.length (X.map bv) ∧ Below w.heap.size w wr)
      case atStart => exact ⟨[], bas, 128, 0, 72, X, rfl, rfl, rfl, rfl, rfl, hOl, by omega, by omega, by omega, by omega, Lib.hid (EncAt.first P), HBAS, Lib.hid rfl, HX, hown2, hb2⟩
      case round =>
        clear hown2 hb2 HX hXl
        obtain ⟨D, d0, n0, e0, b0, X, hg, rfl, rfl, rfl, rfl, hd0, hn0, he0, hb0, hXl, HE, HD, HBI, HX, hown, hb⟩ := hrel
        have HG := Lib.hid hg
        clear hg
        by_cases hlt0 : d0 < P.length
        · have hdl : decide ((d0 : Int) < (P.length : Int)) = true := decide_eq_true (by omega)
          have hrnd := HE.out.round HP.out (by rw [← HD.out]; exact hlt0)
          have cS := small_any n0 hn0 P HP.out hl A cap B w wr H.out hb hB
          obtain ⟨m, hm⟩ : ∃ m, m = leastG n0 P := ⟨_, rfl⟩
          rw [← hm, ← HD.out] at hrnd
          rw [← hm] at cS
          obtain ⟨hnm, hm11, hmem, hR⟩ := hrnd
          rw [Nat.min_eq_right hm11] at cS
          have HMEM := Lib.hid hmem
          obtain ⟨e1, he1⟩ : ∃ e1, e1 = e0 + (m - n0) * (d0 + 1) := ⟨_, rfl⟩
          rw [← he1] at hR
          have hmul : ((m : Int) - (n0 : Int)) * ((d0 : Int) + 1) = (((m - n0) * (d0 + 1) : Nat) : Int) := by
            rw [Int.natCast_mul, Int.natCast_sub hnm, Int.natCast_add]
            rfl
          have hmb : (m - n0) * (d0 + 1) ≤ 1114111 * 257 := Nat.mul_le_mul (by omega) (by omega)
          have hm0 : 0 ≤ ((m : Int) - (n0 : Int)) * ((d0 : Int) + 1) := by omega
          have hm1 : ((m : Int) - (n0 : Int)) * ((d0 : Int) + 1) ≤ 286326527 := by omega
          have hsum : (e0 : Int) + ((m : Int) - (n0 : Int)) * ((d0 : Int) + 1) = (e1 : Int) := by omega
          have HSUM := Lib.hid hsum
          have he1b := hR.small hl
          have HR := Lib.hid hR
          clear hmul hmb hsum he1 hR hm hmem
          go_wp2_with fail
          refine cS.mono ?_
          rintro e w' ⟨rfl, rfl⟩
          go_wp2_with fail
          obtain ⟨go2, rfl⟩ : ∃ go2 : Nat, go2 = gk := ⟨_, rfl⟩
          go_loopg [4, 9, 10, 11, 61] P.length (fun g v ee bi dn i wr => ∃ (k : Nat) (D : List Nat) (d1 e1 b1 : Nat) (X : List UInt8), k ≤ P.length ∧ g = P.length - k ∧ i = .int .i64 k ∧ dn = .int .i64 d1 ∧ ee = .int .i64 e1 ∧ bi = .int .i64 b1 ∧ d1 ≤ 256 ∧ e1 ≤ 17179869184 ∧ b1 ≤ 1000 ∧ X.length ≤ 3400 ∧
            Hid (RndAt P D (P.take k) (P.drop k) m e1) ∧ Hid (d1 = (stP P D).out.length) ∧ Hid (b1 = biasB P D) ∧ Hid (X = outB P D) ∧ Hid (d0 < d1 + ((P.drop k).filter (fun x => decide (x = m))).length) ∧ wr.ownsRow w.heap.size 5 1 v X.length (X.map bv) ∧ Below w.heap.size w wr)
          case atStart =>
            refine ⟨0, D, d0, e1, b0, X, Nat.zero_le _, rfl, rfl, rfl, congrArg (Value.int .i64) HSUM.out, rfl, hd0, he1b, hb0, hXl, ?_, HD, HBI, HX, ?_, hown, hb⟩
            · show RndAt _ _ _ _ _ _
              rw [List.drop_zero, List.take_zero]
              exact HR.out
            · show _ < _
              rw [List.drop_zero]
              have : 0 < (P.filter (fun x => decide (x = m))).length := by
                rw [← List.countP_eq_length_filter, List.countP_pos_iff]
                exact ⟨m, HMEM.out, by simp⟩
              omega
          case round =>
            clear hown hb HX hXl
            obtain ⟨k, D, d1, e1, b1, X, hk, hg4, rfl, rfl, rfl, rfl, hd1, he1, hb1, hXl, HR, HD1, HB1, HX, HCNT, hown, hb⟩ := hrel
            have HG4 := Lib.hid hg4
            clear hg4
            by_cases hlt4 : k < P.length
            · obtain ⟨b', o1, rfl, l1, dd1⟩ := H.out.2 (by omega)
              have g1 := cell_iv H.out hb hB k hlt4 hlt4
              have hple : P[k] ≤ 1114111 := ptN_le (HP.out _ (List.getElem_mem hlt4))
              have hdr : P.drop k = P[k] :: P.drop (k + 1) := List.drop_eq_getElem_cons hlt4
              have htk : P.take (k + 1) = P.take k ++ [P[k]] := List.take_succ_eq_append_getElem hlt4
              obtain ⟨p, hp⟩ : ∃ p, p = P[k] := ⟨_, rfl⟩
              rw [← hp] at g1 hple hdr htk
              have hkd : decide ((k : Int) < (P.length : Int)) = true := decide_eq_true (by omega)
              have hR2 := HR.out
              rw [hdr] at hR2
              have hcnt := HCNT.out
              rw [hdr] at hcnt
              clear dd1 hp
              by_cases hpm : p < m
              · have hpd : decide ((p : Int) < (m : Int)) = true := decide_eq_true (by omega)
                have hpN : decide (p < m) = true := decide_eq_true hpm
                have hR3 := hR2.skip hpm
                rw [← htk] at hR3
                have he3 := hR3.small hl
                have HR3 := Lib.hid hR3
                have HC3 : Hid (d0 < d1 + ((P.drop (k + 1)).filter (fun x => decide (x = m))).length) := by
                  show _ < _
                  rw [List.filter_cons_of_neg (by simp; omega)] at hcnt
                  exact hcnt
                clear hR2 hR3 hcnt hdr htk
                go_wp2
                go_roundg (P.length - (k + 1))
                case rel => exact ⟨k + 1, D, d1, e1 + 1, b1, X, by omega, rfl, by go_num, rfl, by go_num, rfl, hd1, he3, hb1, hXl, HR3, HD1, HB1, HX, HC3, hown, hb⟩
                case measure => rw [HG4.out]; omega
              · by_cases hpe : p = m
                · subst hpe
                  have hpd : decide ((p : Int) < (p : Int)) = false := by simp
                  have hne : ((p : Int) == (p : Int)) = true := by simp
                  have hR3 := hR2.emit
                  rw [← htk] at hR3
                  have hol := hR3.outlen
                  have hXl3 := hR3.len HP.out hl
                  have hb3 := hR3.bias HP.out hl
                  have HR3 := Lib.hid hR3
                  have hst : (stP P (D ++ [e1])).out.length = d1 + 1 := by rw [stP_snoc, PSt.step_len, HD1.out]
                  rw [hst] at hol
                  have HST := Lib.hid hst
                  have HC3 : Hid (d0 < d1 + 1 + ((P.drop (k + 1)).filter (fun x => decide (x = p))).length) := by
                    show _ < _
                    rw [List.filter_cons_of_pos (by simp), List.length_cons] at hcnt
                    omega
                  have hfst : ((d1 : Int) == (bas : Int)) = D.isEmpty := by
                    rw [HD1.out, stP_len, HBAS.out]
                    cases D with
                    | nil => simp
                    | cons x D => simp; omega
                  have hfsN : (d1 == bas) = D.isEmpty := by
                    rw [HD1.out, stP_len, HBAS.out]
                    cases D with
                    | nil => simp
                    | cons x D => simp
                  have hbn : biasB P (D ++ [e1]) = adp e1 (d1 + 1) D.isEmpty := by rw [biasB_snoc, HD1.out]
                  have hXn : outB P (D ++ [e1]) = X ++ (genV e1 0 b1).map digB := by rw [outB_snoc, HX.out, HB1.out]
                  have cA := adp_any e1 (d1 + 1) D.isEmpty (by omega) (by omega) (by omega)
                  rw [← hbn] at cA
                  obtain ⟨b2, hb2⟩ : ∃ b2, b2 = biasB P (D ++ [e1]) := ⟨_, rfl⟩
                  rw [← hb2] at cA hb3
                  rw [show ((d1 + 1 : Nat) : Int) = (d1 : Int) + 1 by omega] at cA
                  have HB2 := Lib.hid hb2
                  have HXN := Lib.hid hXn
                  generalize D.isEmpty = fst at *
                  clear hR2 hR3 hcnt hdr htk hst hbn hXn hb2
                  go_wp2_with fail
                  refine (thr_make b1 (by omega) wr).mono ?_
                  rintro e wt ⟨⟨bk, bb, rfl, hclo⟩, hbt⟩
                  have hownt := own_below hown hbt
                  have hbt2 := hb.trans (hbt.mono hb.size)
                  have HCLO := Lib.hid (hclo.mono hb.size)
                  clear hclo hbt hown hb
                  go_wp2_with fail
                  refine (appN_any w.heap.size w wt _ X X.length rfl e1 b1 bk bb hownt HCLO.out hbt2 (Nat.le_refl _) he1 hb1 (by omega)).mono ?_
                  rintro e wa ⟨⟨va, rfl, howna⟩, hba⟩
                  clear hownt hbt2
                  go_wp2_with (go_at_call 89; refine (cA _).mono ?_; rintro e w' ⟨rfl, rfl⟩)
                  go_roundg (P.length - (k + 1))
                  case rel =>
                    refine ⟨k + 1, D ++ [e1], d1 + 1, 0, b2, outB P (D ++ [e1]), by omega, rfl, by go_num, by go_num, rfl, rfl, by omega, by omega, hb3, hXl3, HR3, Lib.hid HST.out.symm, HB2, Lib.hid rfl, HC3, ?_, hba⟩
                    have e3 : (outB P (D ++ [e1])).length = X.length + (genV e1 0 b1).length := by rw [HXN.out, List.length_append, List.length_map]
                    rw [e3, HXN.out]
                    exact howna
                  case measure => rw [HG4.out]; omega
                · have hpd : decide ((p : Int) < (m : Int)) = false := decide_eq_false (by omega)
                  have hpN : decide (p < m) = false := decide_eq_false hpm
                  have hne : ((p : Int) == (m : Int)) = false := by rw [beq_eq_false_iff_ne]; omega
                  have hneN : (p == m) = false := by rw [beq_eq_false_iff_ne]; omega
                  have hR3 := hR2.pass hpm hpe
                  rw [← htk] at hR3
                  have HR3 := Lib.hid hR3
                  have HC3 : Hid (d0 < d1 + ((P.drop (k + 1)).filter (fun x => decide (x = m))).length) := by
                    show _ < _
                    rw [List.filter_cons_of_neg (by simpa using hpe)] at hcnt
                    exact hcnt
                  clear hR2 hR3 hcnt hdr htk
                  go_wp2
                  go_roundg (P.length - (k + 1))
                  case rel => exact ⟨k + 1, D, d1, e1, b1, X, by omega, rfl, by go_num, rfl, rfl, rfl, hd1, he1, hb1, hXl, HR3, HD1, HB1, HX, HC3, hown, hb⟩
                  case measure => rw [HG4.out]; omega
            · obtain rfl : k = P.length := by omega
              have hkd : decide ((P.length : Int) < (P.length : Int)) = false := by simp
              have hE2 : EncAt P D (m + 1) (e1 + 1) := by
                have := HR.out
                rw [List.drop_length] at this
                exact this.done
              have he2 := hE2.small (by omega) hl
              have HE2 := Lib.hid hE2
              have hdd : d0 < d1 := by
                have := HCNT.out
                rw [List.drop_length] at this
                exact this
              clear hE2
              go_wp2
              go_roundg (P.length - d1)
              case rel => exact ⟨D, d1, m + 1, e1 + 1, b1, X, rfl, rfl, by go_num, by go_num, rfl, hd1, by omega, he2, hb1, hXl, HE2, HD1, HB1, HX, hown, hb⟩
              case measure => rw [HG.out]; omega
        · have hdl : decide ((d0 : Int) < (P.length : Int)) = false := decide_eq_false (by omega)
          have hfin : encDs P = D := HE.out.fin (by rw [← HD.out]; exact hlt0)
          have HX2 : Hid (X = encB P) := by show _ = _; rw [HX.out, encB, hfin]; rfl
          have hconv := str_owned wr _ _ _ _ hown
          rw [HX2.out] at hconv
          clear hfin
          go_wp2
          go_ret2
          exact ⟨rfl, hb⟩

theorem enc_long (A : Option Addr) (len cap : Nat) (w : World) (hl : 256 < len) :
    Calls Tryz.prog 78 #[.slice A len cap] w fun e w' => e = .returned (.tuple #[.string (bs []), .int .i64 3]) ∧ Below w.heap.size w w' := by
  have hd : decide ((256 : Int) < (len : Int)) = true := decide_eq_true (by omega)
  go_enter Tryz.func78, Tryz.ntmps78
  go_wp2
  go_ret2
  exact ⟨rfl, Below.refl _ _⟩

set_option maxRecDepth 20000 in
set_option maxHeartbeats 4000000 in
theorem enc_bad (Z : List Int) (hZ : ¬ Z.all ptZ = true) (hl : Z.length ≤ 256) (A : Option Addr) (len cap B : Nat) (w : World) (hA : Has w B A len (Z.map zv)) (hB : B ≤ w.heap.size) :
    Calls Tryz.prog 78 #[.slice A len cap] w fun e w' => e = .returned (.tuple #[.string (bs []), .int .i64 2]) ∧ Below w.heap.size w w' := by
  obtain ⟨i5, hi5, hz0, hz1, hz2⟩ := info_parts infoU8
  have hlen : len = Z.length := by have := hA.1; simpa using this.symm
  subst hlen
  have H := Lib.hid hA
  have HZ := Lib.hid hZ
  clear hA hZ
  have hd256 : decide ((256 : Int) < (Z.length : Int)) = false := decide_eq_false (by omega)
  go_enter Tryz.func78, Tryz.ntmps78
  go_wp2
  go_loopw [4, 20] (fun v i wr => ∃ (k : Nat) (O : List UInt8), k ≤ Z.length ∧ i = .int .i64 k ∧ Hid ((Z.take k).all ptZ = true) ∧ O.length ≤ k ∧ wr.ownsRow w.heap.size 5 1 v O.length (O.map bv) ∧ Below w.heap.size w wr) (fun _ i _ => Z.length - (intOf i).toNat)
  case atStart => exact ⟨0, [], Nat.zero_le _, rfl, Lib.hid rfl, by simp, World.ownsRow_nil _ _ _ _, Below.refl _ _⟩
  case round =>
    obtain ⟨k, O, hk, rfl, HALL, hOl, hown, hb⟩ := hrel
    by_cases hlt : k < Z.length
    · obtain ⟨b1, o1, rfl, l1, d1⟩ := H.out.2 (by omega)
      have g1 := cell_zv H.out hb hB k hlt hlt
      have hkd : decide ((k : Int) < (Z.length : Int)) = true := decide_eq_true (by omega)
      have c1 := isPt_any Z[k]
      have htk : Z.take (k + 1) = Z.take k ++ [Z[k]] := List.take_succ_eq_append_getElem hlt
      obtain ⟨z, hz⟩ : ∃ z, z = Z[k] := ⟨_, rfl⟩
      rw [← hz] at g1 c1 htk
      clear d1 hz
      by_cases hpt : ptZ z = true
      · have HALL2 : Hid ((Z.take (k + 1)).all ptZ = true) := by
          show _ = _
          rw [htk, List.all_append, HALL.out]
          simpa using hpt
        have hz01 : 0 ≤ z ∧ z ≤ 1114111 := by
          unfold ptZ at hpt
          simp at hpt
          have := ptN_le hpt.2
          omega
        obtain ⟨hz0', hz1'⟩ := hz01
        rw [hpt] at c1
        clear htk hpt
        by_cases h128 : z < 128
        · have hd : decide (z < 128) = true := decide_eq_true h128
          obtain ⟨p, rfl⟩ : ∃ p : Nat, z = (p : Int) := ⟨z.toNat, by omega⟩
          have HBV := Lib.hid (bv_ofNat (p := p) (by omega))
          go_wp2_with (first | (go_at_call 90; refine (c1 _).mono ?_; rintro e w' ⟨rfl, rfl⟩) | (at_builtin; refine wpList_app_one wr rfl _ _ 24 rfl w.heap.size 5 i5 (.int .u8 0) 1 tyBs hi5 hz0 hz1 hz2 rfl _ (by exact rfl) _ _ _ (by exact rfl) hown (by exact rfl) (by unfold maxLen; omega) (by omega) hb (Nat.le_refl _) ?_; intro v' w' hown' hb' _))
          go_roundw
          case rel =>
            refine ⟨k + 1, O ++ [UInt8.ofNat p], by omega, by go_num, HALL2, by simp; omega, ?_, hb'⟩
            rw [List.map_append, List.length_append]
            simp only [List.map_cons, List.map_nil, HBV.out, List.length_singleton]
            exact hown'
          case measure => simp [intOf]; omega
        · have hd : decide (z < 128) = false := decide_eq_false h128
          go_wp2_with (go_at_call 90; refine (c1 _).mono ?_; rintro e w' ⟨rfl, rfl⟩)
          go_roundw
          case rel => exact ⟨k + 1, O, by omega, by go_num, HALL2, by omega, hown, hb⟩
          case measure => simp [intOf]; omega
      · rw [Bool.not_eq_true] at hpt
        rw [hpt] at c1
        clear htk hpt
        go_wp2_with (go_at_call 90; refine (c1 _).mono ?_; rintro e w' ⟨rfl, rfl⟩)
        go_ret2
        exact ⟨rfl, hb⟩
    · exfalso
      have e : k = Z.length := by omega
      have := HALL.out
      rw [e, List.take_length] at this
      exact HZ.out this

/-- The program's Encode. -/
theorem pE12 : PuEnc 78 := by
  intro Z A len cap B w hin hB _
  have hA := hin.has
  have hlen : len = Z.length := by have := hA.1; simpa using this.symm
  by_cases h1 : 256 < Z.length
  · have e : encL Z = (3, []) := by unfold encL; rw [if_pos h1]
    rw [e]
    exact enc_long A len cap w (by omega)
  · by_cases h2 : Z.all ptZ = true
    · have e : encL Z = (0, encB (Z.map Int.toNat)) := by unfold encL; rw [if_neg h1, if_pos h2]
      obtain ⟨hP, hZ⟩ := all_pt h2
      rw [e]
      refine enc_ok _ hP (by rw [List.length_map]; omega) A len cap B w ?_ hB
      rw [iv_zv, hZ]
      exact hA
    · have e : encL Z = (2, []) := by unfold encL; rw [if_neg h1, if_neg h2]
      rw [e]
      exact enc_bad Z h2 (by omega) A len cap B w hA hB
end

section
open Go.RowKit

/-- The code points of what is proper. -/
def ppV (l : List UInt8) : List Nat := if propL l = true then puV l else []
def PpPost (l : List UInt8) (w : World) (e : Ending) (w' : World) : Prop := (∃ v, e = .returned (.tuple #[v, .bool (propL l)]) ∧ w'.ownsRow w.heap.size 3 1 v (ppV l).length ((ppV l).map nvI)) ∧ Below w.heap.size w w'
theorem PpPost.no {l : List UInt8} {w w' : World} (h : propL l = false) (hb : Below w.heap.size w w') : PpPost l w (.returned (.tuple #[.slice none 0 0, .bool false])) w' := by
  refine ⟨⟨_, by rw [h], ?_⟩, hb⟩
  unfold ppV
  rw [if_neg (by rw [h]; simp)]
  exact World.ownsRow_nil _ _ _ _
theorem PpPost.yes {l : List UInt8} {p : List Nat} {w w' : World} {v : Value} (h : propL l = true) (hd : decL l = .ok p) (ho : w'.ownsRow w.heap.size 3 1 v p.length (p.map nvI)) (hb : Below w.heap.size w w') : PpPost l w (.returned (.tuple #[v, .bool true])) w' := by
  refine ⟨⟨v, by rw [h], ?_⟩, hb⟩
  unfold ppV
  rw [if_pos h, (pu_dec_ok hd).2]
  exact ho

set_option maxRecDepth 20000 in
set_option maxHeartbeats 2000000 in
theorem pp_any (r : ByteArray) (w : World) (hr : r.size ≤ 1000000000) :
    Calls Tryz.prog 60 #[.string r] w (PpPost (ls r) w) := by
  have c1 := pD12 r w hr
  unfold DecPost at c1
  cases hd : decL (ls r) with
  | error c =>
    have hc := dec_err_ne hd
    obtain ⟨d1, d2⟩ := dec_err hd
    have hcz : ((c : Int) != 0) = true := by rw [bne_iff_ne]; omega
    have hcN : (c != 0) = true := by rw [bne_iff_ne]; exact hc
    have HN := Lib.hid (prop_no hd)
    rw [d1, d2] at c1
    clear hd d1 d2
    go_enter Tryz.func60, Tryz.ntmps60
    go_wp2_with fail
    refine c1.mono ?_
    rintro e w1 ⟨⟨v, rfl, _⟩, hb⟩
    go_wp2
    go_ret2
    exact PpPost.no HN.out hb
  | ok p =>
    obtain ⟨hP, hpl, _, _⟩ := enc_dec hd
    obtain ⟨d1, d2⟩ := pu_dec_ok hd
    have hple : ∀ x ∈ p, x ≤ 1114111 := fun x hx => ptN_le (hP x hx)
    have cE := fun A c B W hin hB => pE12 (p.map (fun n : Nat => (n : Int))) A p.length c B W hin hB (by rw [List.length_map]; omega)
    rw [encL_of hP hpl] at cE
    obtain ⟨X, hX⟩ : ∃ X, X = bs (encB p) := ⟨_, rfl⟩
    rw [show ((0 : Nat), encB p).2 = encB p from rfl, show (((0 : Nat), encB p).1 : Nat) = 0 from rfl, ← hX] at cE
    have cN := fun A c B W hA hB => cfN_any p hple A c B W hA hB (by omega)
    have cU := fun A c B W hA hB => cfU_any p hple A c B W hA hB (by omega)
    have hWF : ∀ z ∈ p.map (fun n : Nat => (n : Int)), -9223372036854775808 ≤ z ∧ z ≤ 9223372036854775807 := by
      intro z hz
      obtain ⟨x, hx, rfl⟩ := List.mem_map.1 hz
      exact pt_range (hple x hx)
    have HWF := Lib.hid hWF
    obtain ⟨q, hq⟩ : ∃ q, (X.toList == r.toList) = q := ⟨_, rfl⟩
    have hqn : (X.toList != r.toList) = !q := by rw [← hq]; rfl
    have HR : Hid (propL (ls r) = (p.any (fun x => decide (128 ≤ x)) && !(p.any bigP) && q)) := by
      show _ = _
      rw [prop_ok hd, ← hq, hX, toList_ls, toList_ls, ls_bs]
      unfold othK bigK
      rw [List.take_length]
      congr 1
      by_cases he : encB p = ls r
      · rw [he]; simp
      · rw [decide_eq_false he]; simp [he]
    obtain ⟨bn, hbn⟩ : ∃ b, b = p.any (fun x => decide (128 ≤ x)) := ⟨_, rfl⟩
    obtain ⟨bu, hbu⟩ : ∃ b, b = p.any bigP := ⟨_, rfl⟩
    rw [← hbn] at cN HR
    rw [← hbu] at cU HR
    have HD := Lib.hid hd
    rw [d1, d2] at c1
    clear hd d1 d2 hX hP hple hWF hbn hbu hpl
    cases bn with
    | false =>
      have HN : Hid (propL (ls r) = false) := by show _ = _; rw [HR.out]; rfl
      go_enter Tryz.func60, Tryz.ntmps60
      go_wp2_with fail
      refine c1.mono ?_
      rintro e w1 ⟨⟨v, rfl, hown⟩, hb⟩
      obtain ⟨A1, k1, rfl, hh, _⟩ := Has.of_own hown
      go_wp2_with fail
      refine (cN A1 k1 _ w1 hh (Nat.le_refl _)).mono ?_
      rintro e w2 ⟨rfl, hb2⟩
      go_wp2
      go_ret2
      exact PpPost.no HN.out (hb.trans (hb2.mono hb.size))
    | true =>
      cases bu with
      | true =>
        have HN : Hid (propL (ls r) = false) := by show _ = _; rw [HR.out]; rfl
        go_enter Tryz.func60, Tryz.ntmps60
        go_wp2_with fail
        refine c1.mono ?_
        rintro e w1 ⟨⟨v, rfl, hown⟩, hb⟩
        obtain ⟨A1, k1, rfl, hh, _⟩ := Has.of_own hown
        go_wp2_with fail
        refine (cN A1 k1 _ w1 hh (Nat.le_refl _)).mono ?_
        rintro e w2 ⟨rfl, hb2⟩
        have hh2 := hh.below hb2
        have hs2 := hb2.size
        replace hb2 := hb.trans (hb2.mono hb.size)
        go_wp2_with fail
        refine (cU A1 k1 _ w2 hh2 hs2).mono ?_
        rintro e w3 ⟨rfl, hb3⟩
        go_wp2
        go_ret2
        exact PpPost.no HN.out (hb2.trans (hb3.mono hb2.size))
      | false =>
        have HP : Hid (propL (ls r) = q) := by show _ = _; rw [HR.out]; simp
        clear HR
        cases q
        all_goals
          go_enter Tryz.func60, Tryz.ntmps60
          go_wp2_with fail
          refine c1.mono ?_
          rintro e w1 ⟨⟨v, rfl, hown⟩, hb⟩
          have hown0 := hown
          rw [nvI_zv] at hown
          obtain ⟨A1, k1, rfl, hin1⟩ := inZ_own hown HWF.out
          have hh := hin1.has
          rw [← nvI_zv] at hh
          clear hown
          go_wp2_with fail
          refine (cN A1 k1 _ w1 hh (Nat.le_refl _)).mono ?_
          rintro e w2 ⟨rfl, hb2⟩
          have hh2 := hh.below hb2
          have hin2 := hin1.below hb2 (Nat.le_refl _)
          have hown2 := own_below hown0 hb2
          have hs2 := hb2.size
          replace hb2 := hb.trans (hb2.mono hb.size)
          clear hown0 hin1
          go_wp2_with fail
          refine (cU A1 k1 _ w2 hh2 hs2).mono ?_
          rintro e w3 ⟨rfl, hb3⟩
          have hin3 := hin2.below hb3 hs2
          have hown3 := own_below hown2 hb3
          have hs3 := Nat.le_trans hs2 hb3.size
          replace hb3 := hb2.trans (hb3.mono hb2.size)
          clear hown2 hin2 hh2 hh
          go_wp2_with fail
          refine (cE A1 k1 _ w3 hin3 hs3).mono ?_
          rintro e w4 ⟨rfl, hb4⟩
          have hown4 := own_below hown3 hb4
          replace hb4 := hb3.trans (hb4.mono hb3.size)
          clear hown3 hin3
          go_wp2
          go_ret2
          first
          | exact PpPost.no HP.out hb4
          | exact PpPost.yes HP.out HD.out hown4 hb4
end

section
open Go.RowKit

set_option maxRecDepth 20000 in
set_option maxHeartbeats 2000000 in
theorem pTU : LbTU 47 := by
  intro s w hs
  have c1 := plain_any s
  cases hpl : plainL (ls s) with
  | false =>
    have hl : labL (ls s) = false := by rw [lab_plain, hpl]; rfl
    rw [toU_no hl]
    rw [hpl] at c1
    clear hl hpl
    go_enter Tryz.func47, Tryz.ntmps47
    go_wp2_with (go_at_call 57; refine (c1 _).mono ?_; rintro e w1 ⟨rfl, rfl⟩)
    go_ret2
    exact ⟨rfl, Below.refl _ _⟩
  | true =>
    rw [hpl] at c1
    by_cases hx : (ls s).take 4 = xnL
    · have hlp : labL (ls s) = propL ((ls s).drop 4) := by rw [lab_plain, hpl, decide_eq_false (by simp [hx])]; rfl
      have c2 := cut_yes hx
      obtain ⟨r, hr⟩ : ∃ r, r = bs ((ls s).drop 4) := ⟨_, rfl⟩
      have hrs : r.size ≤ 1000000000 := by rw [hr, bs_size, List.length_drop, ls_length]; omega
      have c3 := fun W => pp_any r W hrs
      unfold PpPost at c3
      rw [← hr] at c2
      have hlr : ls r = (ls s).drop 4 := by rw [hr, ls_bs]
      rw [hlr] at c3
      cases hpr : propL ((ls s).drop 4) with
      | false =>
        rw [toU_no (hlp.trans hpr)]
        rw [hpr] at c3
        clear hpl hx hlp hr hlr hpr
        go_enter Tryz.func47, Tryz.ntmps47
        go_wp2_with (first | (go_at_call 57; refine (c1 _).mono ?_; rintro e w1 ⟨rfl, rfl⟩) | (go_at_call 58; refine (c2 _).mono ?_; rintro e w1 ⟨rfl, rfl⟩))
        refine (c3 _).mono ?_
        rintro e w1 ⟨⟨v, rfl, hown⟩, hb⟩
        go_wp2
        go_ret2
        exact ⟨rfl, hb⟩
      | true =>
        obtain ⟨p, hd, hP, hpl2, _, _, _⟩ := prop_of hpr
        rw [toU_xn (hlp.trans hpr) hx hd]
        have hV : ppV ((ls s).drop 4) = p := by unfold ppV; rw [if_pos hpr, (pu_dec_ok hd).2]
        rw [hpr, hV] at c3
        have c4 := fun A cap B W hA hB => tof_any p hP A cap B W hA hB (by omega)
        obtain ⟨X, hX⟩ : ∃ X, X = bs (txtL p) := ⟨_, rfl⟩
        rw [← hX] at c4
        rw [show bs ((0 : Nat), txtL p).2 = X from hX.symm]
        clear hpl hx hlp hr hlr hpr hd hV hX hP
        go_enter Tryz.func47, Tryz.ntmps47
        go_wp2_with (first | (go_at_call 57; refine (c1 _).mono ?_; rintro e w1 ⟨rfl, rfl⟩) | (go_at_call 58; refine (c2 _).mono ?_; rintro e w1 ⟨rfl, rfl⟩))
        refine (c3 _).mono ?_
        rintro e w1 ⟨⟨v, rfl, hown⟩, hb⟩
        obtain ⟨A1, k1, rfl, hh, _⟩ := Has.of_own hown
        go_wp2_with fail
        refine (c4 A1 k1 _ w1 hh (Nat.le_refl _)).mono ?_
        rintro e w2 ⟨rfl, hb2⟩
        go_wp2
        go_ret2
        exact ⟨rfl, hb.trans (hb2.mono hb.size)⟩
    · have hl : labL (ls s) = true := by rw [lab_plain, hpl, decide_eq_true hx]; rfl
      rw [toU_self hl hx, show bs ((0 : Nat), ls s).2 = s from bs_ls s]
      have c2 := cut_no hx
      have c3 := fun W => cl_any s W hs
      clear hpl hx hl
      go_enter Tryz.func47, Tryz.ntmps47
      go_wp2_with (first | (go_at_call 57; refine (c1 _).mono ?_; rintro e w1 ⟨rfl, rfl⟩) | (go_at_call 58; refine (c2 _).mono ?_; rintro e w1 ⟨rfl, rfl⟩))
      refine (c3 _).mono ?_
      rintro e w1 ⟨rfl, hb⟩
      go_wp2
      go_ret2
      exact ⟨rfl, hb⟩
theorem pVal : LbVal 37 := by
  intro s w hs
  have c1 := pTU s w hs
  rcases toU_cases (ls s) with ⟨hl, h0⟩ | ⟨hl, h0⟩
  · rw [hl]
    rw [h0] at c1
    generalize bs (toU (ls s)).2 = X at c1
    clear hl h0
    go_enter Tryz.func37, Tryz.ntmps37
    go_wp2_with fail
    refine c1.mono ?_
    rintro e w1 ⟨rfl, hb⟩
    go_wp2
    go_ret
    exact ⟨rfl, hb⟩
  · rw [hl]
    rw [h0] at c1
    clear hl h0
    go_enter Tryz.func37, Tryz.ntmps37
    go_wp2_with fail
    refine c1.mono ?_
    rintro e w1 ⟨rfl, hb⟩
    go_wp2
    go_ret
    exact ⟨rfl, hb⟩
end

section
open Go.RowKit

theorem qNum : HoNum 35 := fun s w hs => (num_any s hs w).mono fun _e _w' h => ⟨h.1, h.2 ▸ Below.refl _ _⟩
theorem qLab : HoLab 28 := lab_any qNum pVal
theorem qVn : HoVn 19 := vn_any qLab
end

end Go.Proofs.YthoolifdmemceaaGreatDoor
