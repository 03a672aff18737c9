/-
Contract of the reference's Encode of layer 12, of valid code points.
Contract of the reference's Encode of layer 12, of any numbers.
-/
import Derived.Test.YthoolifdmemceaaGreatDoorB12
import Derived.Test.YthoolifdmemceaaGreatDoorB02
import Derived.Test.YthoolifdmemceaaGreatDoorB11
import Derived.Deep.LoopGhost
import Derived.BigQuiet
import Derived.Deep.CutRange
import Derived.Deep.CutBlock
namespace Go.Proofs.YthoolifdmemceaaGreatDoor
section
open Go.RowKit

/-- A number in a cell. -/
abbrev iv (n : Nat) : Value := .int .i64 (n : Int)
theorem cell_iv {w wr : World} {B b off len : Nat} {P : List Nat} (h : Has w B (some ⟨b, off, none⟩) len (P.map iv)) (hb : Below w.heap.size w wr) (hB : B ≤ w.heap.size) (k : Nat) (hk : k < len) (hk2 : k < P.length) : wr.cell? ⟨b, off + k, none⟩ = some (.int .i64 (P[k] : Int)) := by
  obtain ⟨b', off', e, hlt, hc⟩ := h.at_ hk
  injection e with e
  injection e with e1 e2 _
  subst e1 e2
  rw [hb.cell (p := ⟨b, off + k, none⟩) (Nat.lt_of_lt_of_le hlt hB), hc, List.getElem_map]
theorem basicN_take (P : List Nat) (k : Nat) (hk : k < P.length) : basicN (P.take (k + 1)) = basicN (P.take k) ++ (if P[k] < 128 then [P[k]] else []) := by
  rw [List.take_succ_eq_append_getElem hk]
  unfold basicN
  rw [List.filter_append]
  congr 1
  split
  · rename_i h; simp [h]
  · rename_i h; simp [h]
theorem basicN_len (P : List Nat) : (basicN P).length ≤ P.length := List.length_filter_le _ _
theorem bv_ofNat {p : Nat} (h : p < 128) : bv (UInt8.ofNat p) = .int .u8 (p : Int) := by rw [bv_eq, pu_ofNat_toNat h]
theorem outB_nil (P : List Nat) : outB P [] = (basicN P).map UInt8.ofNat ++ (if basicN P = [] then [] else [45]) := by unfold outB; rw [digsOf, List.append_nil]
theorem bias_nil (P : List Nat) : biasB P [] = 72 := rfl
theorem stP_nil (P : List Nat) : (stP P []).out.length = (basicN P).length := rfl

set_option maxRecDepth 20000 in
set_option maxHeartbeats 8000000 in
theorem refEnc_ok (P : List Nat) (hP : ∀ p ∈ P, ptN p = true) (hl : P.length ≤ 256) (A : Option Addr) (len cap B : Nat) (w : World) (hA : Has w B A len (P.map iv)) (hB : B ≤ w.heap.size) :
    Calls Tryz.prog 50 #[.slice A len cap] w fun e w' => e = .returned (.tuple #[.string (bs (encB P)), .int .i64 0]) ∧ Below w.heap.size w w' := by
  obtain ⟨i5, hi5, hz0, hz1, hz2⟩ := info_parts infoU8
  have hlen : len = P.length := by have := hA.1; simpa using this.symm
  subst hlen
  have H := Lib.hid hA
  have HP := Lib.hid hP
  clear hA hP
  have hd256 : decide ((256 : Int) < (P.length : Int)) = false := decide_eq_false (by omega)
  go_enter Tryz.func50, Tryz.ntmps50
  go_wp2
  go_loopw [4, 5] (fun v i wr => ∃ (k : Nat) (O : List Nat), k ≤ P.length ∧ i = .int .i64 k ∧ Hid (O = basicN (P.take k)) ∧ O.length ≤ 256 ∧ wr.ownsRow w.heap.size 5 1 v O.length ((O.map UInt8.ofNat).map bv) ∧ Below w.heap.size w wr) (fun _ i _ => P.length - (intOf i).toNat)
  case atStart => exact ⟨0, [], Nat.zero_le _, rfl, Lib.hid rfl, by simp, World.ownsRow_nil _ _ _ _, Below.refl _ _⟩
  case round =>
    obtain ⟨k, O, hk, rfl, HO, hOl, hown, hb⟩ := hrel
    by_cases hlt : k < P.length
    · obtain ⟨b1, o1, rfl, l1, d1⟩ := H.out.2 (by omega)
      have g1 := cell_iv H.out hb hB k hlt hlt
      have hpt : ptZ ((P[k] : Nat) : Int) = true := by rw [ptZ_nat]; exact HP.out _ (List.getElem_mem hlt)
      have hple : P[k] ≤ 1114111 := ptN_le (HP.out _ (List.getElem_mem hlt))
      have c1 := refPoint_any ((P[k] : Nat) : Int)
      have hbt := basicN_take P k hlt
      have hbl := basicN_len (P.take (k + 1))
      have hbl2 : (P.take (k + 1)).length ≤ 256 := by rw [List.length_take]; omega
      obtain ⟨p, hp⟩ : ∃ p, p = P[k] := ⟨_, rfl⟩
      rw [← hp] at g1 c1 hple hbt hpt
      rw [hpt] at c1
      rw [← HO.out] at hbt
      clear d1 hp hpt
      by_cases h128 : p < 128
      · have hd : decide ((p : Int) < 128) = true := decide_eq_true (by omega)
        rw [if_pos h128] at hbt
        have HBV := Lib.hid (bv_ofNat h128)
        have HO2 := Lib.hid hbt.symm
        rw [hbt, List.length_append, List.length_singleton] at hbl
        clear hbt
        go_wp2_with (first | (go_at_call 65; refine (c1 _).mono ?_; rintro e w' ⟨rfl, rfl⟩) | (at_builtin; refine wpList_app_one wr rfl _ _ 24 rfl w.heap.size 5 i5 (.int .u8 0) 1 tyBs hi5 hz0 hz1 hz2 rfl _ (by exact rfl) _ _ _ (by exact rfl) hown (by exact rfl) (by unfold maxLen; omega) (by omega) hb (Nat.le_refl _) ?_; intro v' w' hown' hb' _))
        go_roundw
        case rel =>
          refine ⟨k + 1, O ++ [p], by omega, by go_num, HO2, by simp; omega, ?_, hb'⟩
          rw [List.map_append, List.map_append, List.length_append]
          simp only [List.map_cons, List.map_nil, HBV.out, List.length_singleton]
          exact hown'
        case measure => simp [intOf]; omega
      · have hd : decide ((p : Int) < 128) = false := decide_eq_false (by omega)
        rw [if_neg h128, List.append_nil] at hbt
        have HO2 := Lib.hid hbt.symm
        clear hbt
        go_wp2_with (go_at_call 65; refine (c1 _).mono ?_; rintro e w' ⟨rfl, rfl⟩)
        go_roundw
        case rel => exact ⟨k + 1, O, by omega, by go_num, HO2, hOl, hown, hb⟩
        case measure => simp [intOf]; omega
    · obtain rfl : k = P.length := by omega
      have HO2 : Hid (O = basicN P) := by show _ = _; rw [HO.out, List.take_length]
      clear HO
      obtain ⟨A4, c4, rfl, _, _⟩ := Has.of_own hown
      have hO0 : (basicN P = []) = (O = []) := by rw [HO2.out]
      go_upto_if 50 with fail
      go_cut [4] from 50 to 53 (fun v wx => ∃ X : List UInt8, Hid (X = outB P []) ∧ X.length ≤ 257 ∧ wx.ownsRow w.heap.size 5 1 v X.length (X.map bv) ∧ Below w.heap.size w wx)
      case first =>
        by_cases h0 : O = []
        · have hd0 : decide ((0 : Int) < (O.length : Int)) = false := by rw [h0]; rfl
          have hdN : ¬ (0 < O.length) := by rw [h0]; simp
          have hdB : decide (0 < O.length) = false := by rw [h0]; rfl
          go_wp2_with fail
          go_meet
          refine ⟨O.map UInt8.ofNat, ?_, by simp; omega, ?_, hb⟩
          · show _ = _
            rw [outB_nil, ← HO2.out, if_pos h0, List.append_nil]
          · rw [List.length_map]
            exact hown
        · have hdN : 0 < O.length := List.length_pos_iff.2 h0
          have hd0 : decide ((0 : Int) < (O.length : Int)) = true := decide_eq_true (by omega)
          have hdB : decide (0 < O.length) = true := decide_eq_true hdN
          go_wp2_with (at_builtin; refine wpList_app_one wr rfl _ _ 24 rfl w.heap.size 5 i5 (.int .u8 0) 1 tyBs hi5 hz0 hz1 hz2 rfl _ (by exact rfl) _ _ _ (by exact rfl) hown (by exact rfl) (by unfold maxLen; omega) (by omega) hb (Nat.le_refl _) ?_; intro v' w' hown' hb' _)
          go_meet
          refine ⟨O.map UInt8.ofNat ++ [45], ?_, by simp; omega, ?_, hb'⟩
          · show _ = _
            rw [outB_nil, ← HO2.out, if_neg h0]
          · rw [List.map_append, List.length_append, List.length_map]
            exact hown'
      case rest =>
      obtain ⟨X, HX, hXl, hown2, hb2⟩ := hcut
      have hbas : O.length = (basicN P).length := by rw [HO2.out]
      obtain ⟨bas, hbs⟩ : ∃ bas, bas = O.length := ⟨_, rfl⟩
      rw [← hbs] at hOl hbas ⊢
      have HBAS := Lib.hid hbas
      clear hown hb hO0 HO2 hbs hbas
      go_wp2_with fail
      go_loopg [4, 6, 8, 9, 10] (P.length - bas) (fun g v dn nn ee bi wr => ∃ (D : List Nat) (d0 n0 e0 b0 : Nat) (X : List UInt8), g = P.length - d0 ∧ dn = .int .i64 d0 ∧ nn = .int .i64 n0 ∧ ee = .int .i64 e0 ∧ bi = .int .i64 b0 ∧ d0 ≤ 256 ∧ n0 ≤ 1114112 ∧ e0 ≤ 17179869184 ∧ b0 ≤ 1000 ∧ X.length ≤ 3400 ∧
        Hid (EncAt P D n0 e0) ∧ Hid (d0 = (stP P D).out.length) ∧ Hid (b0 = biasB P D) ∧ Hid (X = outB P D) ∧ wr.ownsRow w.heap.size 5 1 v X.length (X.map bv) ∧ Below w.heap.size w wr)
      case atStart => exact ⟨[], bas, 128, 0, 72, X, rfl, rfl, rfl, rfl, rfl, hOl, by omega, by omega, by omega, by omega, Lib.hid (EncAt.first P), HBAS, Lib.hid rfl, HX, hown2, hb2⟩
      case round =>
        clear hown2 hb2 HX hXl
        obtain ⟨D, d0, n0, e0, b0, X, hg, rfl, rfl, rfl, rfl, hd0, hn0, he0, hb0, hXl, HE, HD, HBI, HX, hown, hb⟩ := hrel
        have HG := Lib.hid hg
        clear hg
        by_cases hlt0 : d0 < P.length
        · have hdl : decide ((d0 : Int) < (P.length : Int)) = true := decide_eq_true (by omega)
          have hrnd := HE.out.round HP.out (by rw [← HD.out]; exact hlt0)
          obtain ⟨m, hm⟩ : ∃ m, m = leastG n0 P := ⟨_, rfl⟩
          rw [← hm, ← HD.out] at hrnd
          obtain ⟨hnm, hm11, hmem, hR⟩ := hrnd
          have HM := Lib.hid hm
          have HMEM := Lib.hid hmem
          obtain ⟨e1, he1⟩ : ∃ e1, e1 = e0 + (m - n0) * (d0 + 1) := ⟨_, rfl⟩
          rw [← he1] at hR
          have hmul : ((m : Int) - (n0 : Int)) * ((d0 : Int) + 1) = (((m - n0) * (d0 + 1) : Nat) : Int) := by
            rw [Int.natCast_mul, Int.natCast_sub hnm, Int.natCast_add]
            rfl
          have hmb : (m - n0) * (d0 + 1) ≤ 1114111 * 257 := Nat.mul_le_mul (by omega) (by omega)
          have hm0 : 0 ≤ ((m : Int) - (n0 : Int)) * ((d0 : Int) + 1) := by omega
          have hm1 : ((m : Int) - (n0 : Int)) * ((d0 : Int) + 1) ≤ 286326527 := by omega
          have hsum : (e0 : Int) + ((m : Int) - (n0 : Int)) * ((d0 : Int) + 1) = (e1 : Int) := by omega
          have HSUM := Lib.hid hsum
          have he1b := hR.small hl
          have HR := Lib.hid hR
          clear hmul hmb hsum he1 hR hm hmem
          go_wp2_with fail
          obtain ⟨wo, rfl⟩ : ∃ wo : World, wo = wr := ⟨_, rfl⟩
          obtain ⟨go, rfl⟩ : ∃ go : Nat, go = gk := ⟨_, rfl⟩
          go_loopg [11, 12] P.length (fun g l i wr => ∃ (k v : Nat), wr = wo ∧ k ≤ P.length ∧ g = P.length - k ∧ i = .int .i64 k ∧ l = .int .i64 v ∧ v ≤ 1073741824 ∧ Hid (min v (leastG n0 (P.drop k)) = m))
          case atStart => exact ⟨0, 1073741824, rfl, Nat.zero_le _, rfl, rfl, rfl, Nat.le_refl _, Lib.hid (by rw [List.drop_zero, Nat.min_eq_right (leastG_30 n0 P), HM.out])⟩
          case round =>
            obtain ⟨k, v, rfl, hk, hg3, rfl, rfl, hv, HV⟩ := hrel
            have HG3 := Lib.hid hg3
            clear hg3
            by_cases hlt2 : k < P.length
            · obtain ⟨b1, o1, rfl, l1, d1⟩ := H.out.2 (by omega)
              have g1 := cell_iv H.out hb hB k hlt2 hlt2
              have hple : P[k] ≤ 1114111 := ptN_le (HP.out _ (List.getElem_mem hlt2))
              have hdr : P.drop k = P[k] :: P.drop (k + 1) := List.drop_eq_getElem_cons hlt2
              obtain ⟨p, hp⟩ : ∃ p, p = P[k] := ⟨_, rfl⟩
              rw [← hp] at g1 hple hdr
              have hkd : decide ((k : Int) < (P.length : Int)) = true := decide_eq_true (by omega)
              clear d1 hp
              by_cases hge : n0 ≤ p
              · have hgd : decide ((n0 : Int) ≤ (p : Int)) = true := decide_eq_true (by omega)
                have hgN : decide (n0 ≤ p) = true := decide_eq_true hge
                obtain ⟨v2, hv2⟩ : ∃ v2 : Nat, v2 = min v p := ⟨_, rfl⟩
                have hmi : min (v : Int) (p : Int) = (v2 : Int) := by rw [hv2]; omega
                have hmin : ∀ (W : World) ts ty, (Builtin.min_ ts ty #[.int .i64 (v : Int), .int .i64 (p : Int)]).run Tryz.prog W = .ok (.int .i64 (v2 : Int)) W := fun W ts ty => min_two W ts ty _ _ _ hmi
                have HV2 : Hid (min v2 (leastG n0 (P.drop (k + 1))) = m) := by
                  show _ = _
                  have := HV.out
                  rw [hdr, leastG, if_pos hge] at this
                  rw [hv2, Nat.min_assoc]
                  exact this
                have hv2b : v2 ≤ 1073741824 := by rw [hv2]; exact Nat.le_trans (Nat.min_le_left _ _) hv
                clear hmi hv2 hdr hge
                go_wp2
                go_roundg (P.length - (k + 1))
                case rel => exact ⟨k + 1, v2, rfl, by omega, rfl, by go_num, rfl, hv2b, HV2⟩
                case measure => rw [HG3.out]; omega
              · have hgd : decide ((n0 : Int) ≤ (p : Int)) = false := decide_eq_false (by omega)
                have hgN : decide (n0 ≤ p) = false := decide_eq_false hge
                have HV2 : Hid (min v (leastG n0 (P.drop (k + 1))) = m) := by
                  show _ = _
                  have := HV.out
                  rw [hdr, leastG, if_neg hge] at this
                  exact this
                clear hdr
                go_wp2
                go_roundg (P.length - (k + 1))
                case rel => exact ⟨k + 1, v, rfl, by omega, rfl, by go_num, rfl, hv, HV2⟩
                case measure => rw [HG3.out]; omega
            · obtain rfl : k = P.length := by omega
              have hvm : v = m := by
                have := HV.out
                rw [List.drop_length, leastG, Nat.min_eq_left hv] at this
                exact this
              subst v
              have hkd : decide ((P.length : Int) < (P.length : Int)) = false := by simp
              go_wp2_with fail
              obtain ⟨go2, rfl⟩ : ∃ go2 : Nat, go2 = gk := ⟨_, rfl⟩
              go_loopg [4, 6, 9, 10, 13] P.length (fun g v dn ee bi i wr => ∃ (k : Nat) (D : List Nat) (d1 e1 b1 : Nat) (X : List UInt8), k ≤ P.length ∧ g = P.length - k ∧ i = .int .i64 k ∧ dn = .int .i64 d1 ∧ ee = .int .i64 e1 ∧ bi = .int .i64 b1 ∧ d1 ≤ 256 ∧ e1 ≤ 17179869184 ∧ b1 ≤ 1000 ∧ X.length ≤ 3400 ∧
                Hid (RndAt P D (P.take k) (P.drop k) m e1) ∧ Hid (d1 = (stP P D).out.length) ∧ Hid (b1 = biasB P D) ∧ Hid (X = outB P D) ∧ Hid (d0 < d1 + ((P.drop k).filter (fun x => decide (x = m))).length) ∧ wr.ownsRow w.heap.size 5 1 v X.length (X.map bv) ∧ Below w.heap.size w wr)
              case atStart =>
                refine ⟨0, D, d0, e1, b0, X, Nat.zero_le _, rfl, rfl, rfl, congrArg (Value.int .i64) HSUM.out, rfl, hd0, he1b, hb0, hXl, ?_, HD, HBI, HX, ?_, hown, hb⟩
                · show RndAt _ _ _ _ _ _
                  rw [List.drop_zero, List.take_zero]
                  exact HR.out
                · show _ < _
                  rw [List.drop_zero]
                  have : 0 < (P.filter (fun x => decide (x = m))).length := by
                    rw [← List.countP_eq_length_filter, List.countP_pos_iff]
                    exact ⟨m, HMEM.out, by simp⟩
                  omega
              case round =>
                clear hown hb HX hXl
                obtain ⟨k, D, d1, e1, b1, X, hk, hg4, rfl, rfl, rfl, rfl, hd1, he1, hb1, hXl, HR, HD1, HB1, HX, HCNT, hown, hb⟩ := hrel
                have HG4 := Lib.hid hg4
                clear hg4
                by_cases hlt4 : k < P.length
                · obtain ⟨b', o1, rfl, l1, dd1⟩ := H.out.2 (by omega)
                  have g1 := cell_iv H.out hb hB k hlt4 hlt4
                  have hple : P[k] ≤ 1114111 := ptN_le (HP.out _ (List.getElem_mem hlt4))
                  have hdr : P.drop k = P[k] :: P.drop (k + 1) := List.drop_eq_getElem_cons hlt4
                  have htk : P.take (k + 1) = P.take k ++ [P[k]] := List.take_succ_eq_append_getElem hlt4
                  obtain ⟨p, hp⟩ : ∃ p, p = P[k] := ⟨_, rfl⟩
                  rw [← hp] at g1 hple hdr htk
                  have hkd : decide ((k : Int) < (P.length : Int)) = true := decide_eq_true (by omega)
                  have hR2 := HR.out
                  rw [hdr] at hR2
                  have hcnt := HCNT.out
                  rw [hdr] at hcnt
                  clear dd1 hp
                  by_cases hpm : p < m
                  · have hpd : decide ((p : Int) < (m : Int)) = true := decide_eq_true (by omega)
                    have hpN : decide (p < m) = true := decide_eq_true hpm
                    have hne : ((p : Int) != (m : Int)) = true := by rw [bne_iff_ne]; omega
                    have hneN : (p != m) = true := by rw [bne_iff_ne]; omega
                    have hR3 := hR2.skip hpm
                    rw [← htk] at hR3
                    have he3 := hR3.small hl
                    have HR3 := Lib.hid hR3
                    have HC3 : Hid (d0 < d1 + ((P.drop (k + 1)).filter (fun x => decide (x = m))).length) := by
                      show _ < _
                      rw [List.filter_cons_of_neg (by simp; omega)] at hcnt
                      exact hcnt
                    clear hR2 hR3 hcnt hdr htk
                    go_wp2
                    go_roundg (P.length - (k + 1))
                    case rel => exact ⟨k + 1, D, d1, e1 + 1, b1, X, by omega, rfl, by go_num, rfl, by go_num, rfl, hd1, he3, hb1, hXl, HR3, HD1, HB1, HX, HC3, hown, hb⟩
                    case measure => rw [HG4.out]; omega
                  · by_cases hpe : p = m
                    · subst hpe
                      have hpd : decide ((p : Int) < (p : Int)) = false := by simp
                      have hne : ((p : Int) != (p : Int)) = false := by simp
                      have hR3 := hR2.emit
                      rw [← htk] at hR3
                      have hol := hR3.outlen
                      have hXl3 := hR3.len HP.out hl
                      have hb3 := hR3.bias HP.out hl
                      have HR3 := Lib.hid hR3
                      have hst : (stP P (D ++ [e1])).out.length = d1 + 1 := by rw [stP_snoc, PSt.step_len, HD1.out]
                      rw [hst] at hol
                      have HST := Lib.hid hst
                      have HC3 : Hid (d0 < d1 + 1 + ((P.drop (k + 1)).filter (fun x => decide (x = p))).length) := by
                        show _ < _
                        rw [List.filter_cons_of_pos (by simp), List.length_cons] at hcnt
                        omega
                      have hfst : ((d1 : Int) == (bas : Int)) = D.isEmpty := by
                        rw [HD1.out, stP_len, HBAS.out]
                        cases D with
                        | nil => simp
                        | cons x D => simp; omega
                      have hfsN : (d1 == bas) = D.isEmpty := by
                        rw [HD1.out, stP_len, HBAS.out]
                        cases D with
                        | nil => simp
                        | cons x D => simp
                      have hbn : biasB P (D ++ [e1]) = adp e1 (d1 + 1) D.isEmpty := by rw [biasB_snoc, HD1.out]
                      have hXn : outB P (D ++ [e1]) = X ++ (genV e1 0 b1).map digB := by rw [outB_snoc, HX.out, HB1.out]
                      have cA := refAdp_any e1 (d1 + 1) D.isEmpty (by omega) (by omega) (by omega)
                      rw [← hbn] at cA
                      obtain ⟨b2, hb2⟩ : ∃ b2, b2 = biasB P (D ++ [e1]) := ⟨_, rfl⟩
                      rw [← hb2] at cA hb3
                      rw [show ((d1 + 1 : Nat) : Int) = (d1 : Int) + 1 by omega] at cA
                      have HB2 := Lib.hid hb2
                      have HXN := Lib.hid hXn
                      generalize D.isEmpty = fst at *
                      have hgl : (genV e1 0 b1).length ≤ 12 := genV_len 11 e1 0 b1 (Nat.lt_of_le_of_lt he1 (by decide))
                      have HGL := Lib.hid hgl
                      clear hR2 hR3 hcnt hdr htk hst hbn hXn hb2 hgl
                      go_wp2_with fail
                      obtain ⟨go3, rfl⟩ : ∃ go3 : Nat, go3 = gk := ⟨_, rfl⟩
                      go_loopg [4, 14, 15] (e1 + 1) (fun g v qq kk wr => ∃ (Q K : Nat) (L : List Nat), g = Q + 1 ∧ qq = .int .i64 Q ∧ kk = .int .i64 K ∧ Q ≤ 17179869184 ∧ K ≤ 12 ∧ Hid (K = L.length) ∧ Hid (L ++ genV Q K b1 = genV e1 0 b1) ∧
                        wr.ownsRow w.heap.size 5 1 v (X.length + K) ((X ++ L.map digB).map bv) ∧ Below w.heap.size w wr)
                      case atStart => exact ⟨e1, 0, [], rfl, rfl, rfl, he1, by omega, Lib.hid rfl, Lib.hid rfl, by simpa using hown, hb⟩
                      case round =>
                        clear hown hb
                        obtain ⟨Q, K, L, hg5, rfl, rfl, hQ, hK, HK, HLG, hown, hb⟩ := hrel
                        have HG5 := Lib.hid hg5
                        clear hg5
                        have ht := thr_range K b1
                        have cT := refThr_any K b1 (by omega) (by omega)
                        have hlenG : L.length + (genV Q K b1).length ≤ 12 := by have := HGL.out; rw [← HLG.out, List.length_append] at this; exact this
                        by_cases hqt : Q < thr K b1
                        · have hone := genV_one hqt
                          have hge : decide (((thr K b1 : Nat) : Int) ≤ (Q : Int)) = false := decide_eq_false (by omega)
                          have hgeN : decide (thr K b1 ≤ Q) = false := decide_eq_false (by omega)
                          have cD := refDig_any Q (by omega)
                          have HLE : Hid (L ++ [Q] = genV e1 0 b1) := by show _ = _; rw [← HLG.out, hone]
                          have HXE : Hid (outB P (D ++ [e1]) = (X ++ L.map digB) ++ [digB Q]) := by
                            show _ = _
                            rw [HXN.out, ← HLE.out, List.map_append, List.append_assoc]
                            rfl
                          generalize thr K b1 = t at *
                          clear hone hlenG
                          go_wp2_with (first
                            | (go_at_call 63; refine (cT _).mono ?_; rintro e w' ⟨rfl, rfl⟩)
                            | (go_at_call 66; refine (cD _).mono ?_; rintro e w' ⟨rfl, rfl⟩)
                            | (go_at_call 64; refine (cA _).mono ?_; rintro e w' ⟨rfl, rfl⟩)
                            | (at_builtin; refine wpList_app_one wr rfl _ _ 24 rfl w.heap.size 5 i5 (.int .u8 0) 1 tyBs hi5 hz0 hz1 hz2 rfl _ (by exact rfl) _ _ _ (by exact rfl) hown (by exact rfl) (by unfold maxLen; omega) (by omega) hb (Nat.le_refl _) ?_; intro v' w' hown' hb' _))
                          go_roundg (P.length - (k + 1))
                          case rel =>
                            refine ⟨k + 1, D ++ [e1], d1 + 1, 0, b2, outB P (D ++ [e1]), by omega, rfl, by go_num, by go_num, rfl, rfl, by omega, by omega, hb3, hXl3, HR3, Lib.hid HST.out.symm, HB2, Lib.hid rfl, HC3, ?_, hb'⟩
                            have e3 : (outB P (D ++ [e1])).length = X.length + K + 1 := by rw [HXE.out, HK.out]; simp only [List.length_append, List.length_map, List.length_singleton]
                            rw [e3, HXE.out, List.map_append]
                            exact hown'
                          case measure => rw [HG4.out]; omega
                        · have hmore := genV_more hqt
                          have hge : decide (((thr K b1 : Nat) : Int) ≤ (Q : Int)) = true := decide_eq_true (by omega)
                          have hgeN : decide (thr K b1 ≤ Q) = true := decide_eq_true (by omega)
                          have hless := gen_less Q _ hqt ht.1
                          obtain ⟨t, hte⟩ : ∃ t, t = thr K b1 := ⟨_, rfl⟩
                          rw [← hte] at hmore hge hgeN hless ht hqt cT
                          obtain ⟨rm, hrm⟩ : ∃ rm, rm = (Q - t) % (36 - t) := ⟨_, rfl⟩
                          obtain ⟨Q2, hQ2⟩ : ∃ Q2, Q2 = (Q - t) / (36 - t) := ⟨_, rfl⟩
                          have hrmb : rm < 36 - t := by rw [hrm]; exact Nat.mod_lt _ (by omega)
                          have hmod : Int.tmod ((Q : Int) - (t : Int)) (36 - (t : Int)) = (rm : Int) := by
                            rw [Int.tmod_eq_emod_of_nonneg (by omega), hrm, show ((Q : Int) - (t : Int)) = ((Q - t : Nat) : Int) by omega, show (36 - (t : Int)) = ((36 - t : Nat) : Int) by omega]
                            exact (Int.natCast_emod _ _).symm
                          have hdiv : Int.tdiv ((Q : Int) - (t : Int)) (36 - (t : Int)) = (Q2 : Int) := by
                            rw [Int.tdiv_eq_ediv_of_nonneg (by omega), hQ2, show ((Q : Int) - (t : Int)) = ((Q - t : Nat) : Int) by omega, show (36 - (t : Int)) = ((36 - t : Nat) : Int) by omega]
                            exact (Int.natCast_ediv _ _).symm
                          have hne0 : ¬ (36 - (t : Int) = 0) := by omega
                          rw [← hrm, ← hQ2] at hmore
                          rw [← hQ2] at hless
                          have cD := refDig_any (t + rm) (by omega)
                          rw [show ((t + rm : Nat) : Int) = (t : Int) + (rm : Int) by omega] at cD
                          have HL2 : Hid ((L ++ [t + rm]) ++ genV Q2 (K + 1) b1 = genV e1 0 b1) := by
                            show _ = _
                            rw [← HLG.out, hmore, List.append_assoc]
                            rfl
                          have hK12 : K + 1 ≤ 12 := by
                            rw [hmore, List.length_cons] at hlenG
                            have := HK.out
                            omega
                          clear hmore hrm hQ2 hlenG hte hqt
                          go_wp2_with (first
                            | (go_at_call 63; refine (cT _).mono ?_; rintro e w' ⟨rfl, rfl⟩)
                            | (go_at_call 66; refine (cD _).mono ?_; rintro e w' ⟨rfl, rfl⟩)
                            | (at_builtin; refine wpList_app_one wr rfl _ _ 24 rfl w.heap.size 5 i5 (.int .u8 0) 1 tyBs hi5 hz0 hz1 hz2 rfl _ (by exact rfl) _ _ _ (by exact rfl) hown (by exact rfl) (by unfold maxLen; omega) (by omega) hb (Nat.le_refl _) ?_; intro v' w' hown' hb' _))
                          go_roundg (Q2 + 1)
                          case rel =>
                            refine ⟨Q2, K + 1, L ++ [t + rm], rfl, rfl, by go_num, by omega, hK12, ?_, HL2, ?_, hb'⟩
                            · show _ = _
                              rw [List.length_append, ← HK.out]
                              rfl
                            · rw [show (X ++ (L ++ [t + rm]).map digB).map bv = (X ++ L.map digB).map bv ++ [bv (digB (t + rm))] by simp]
                              exact hown'
                          case measure => rw [HG5.out]; omega
                    · have hpd : decide ((p : Int) < (m : Int)) = false := decide_eq_false (by omega)
                      have hpN : decide (p < m) = false := decide_eq_false hpm
                      have hne : ((p : Int) != (m : Int)) = true := by rw [bne_iff_ne]; omega
                      have hneN : (p != m) = true := by rw [bne_iff_ne]; omega
                      have hR3 := hR2.pass hpm hpe
                      rw [← htk] at hR3
                      have HR3 := Lib.hid hR3
                      have HC3 : Hid (d0 < d1 + ((P.drop (k + 1)).filter (fun x => decide (x = m))).length) := by
                        show _ < _
                        rw [List.filter_cons_of_neg (by simpa using hpe)] at hcnt
                        exact hcnt
                      clear hR2 hR3 hcnt hdr htk
                      go_wp2
                      go_roundg (P.length - (k + 1))
                      case rel => exact ⟨k + 1, D, d1, e1, b1, X, by omega, rfl, by go_num, rfl, rfl, rfl, hd1, he1, hb1, hXl, HR3, HD1, HB1, HX, HC3, hown, hb⟩
                      case measure => rw [HG4.out]; omega
                · obtain rfl : k = P.length := by omega
                  have hkd : decide ((P.length : Int) < (P.length : Int)) = false := by simp
                  have hE2 : EncAt P D (m + 1) (e1 + 1) := by
                    have := HR.out
                    rw [List.drop_length] at this
                    exact this.done
                  have he2 := hE2.small (by omega) hl
                  have HE2 := Lib.hid hE2
                  have hdd : d0 < d1 := by
                    have := HCNT.out
                    rw [List.drop_length] at this
                    exact this
                  clear hE2
                  go_wp2
                  go_roundg (P.length - d1)
                  case rel => exact ⟨D, d1, m + 1, e1 + 1, b1, X, rfl, rfl, by go_num, by go_num, rfl, hd1, by omega, he2, hb1, hXl, HE2, HD1, HB1, HX, hown, hb⟩
                  case measure => rw [HG.out]; omega
        · have hdl : decide ((d0 : Int) < (P.length : Int)) = false := decide_eq_false (by omega)
          have hfin : encDs P = D := HE.out.fin (by rw [← HD.out]; exact hlt0)
          have HX2 : Hid (X = encB P) := by show _ = _; rw [HX.out, encB, hfin]; rfl
          have hconv := str_owned wr _ _ _ _ hown
          rw [HX2.out] at hconv
          clear hfin
          go_wp2
          go_ret2
          exact ⟨rfl, hb⟩
end

section
open Go.RowKit

/-- A number in a cell. -/
abbrev zv (z : Int) : Value := .int .i64 z
theorem iv_zv (P : List Nat) : P.map iv = (P.map (fun n : Nat => (n : Int))).map zv := by rw [List.map_map]; rfl
theorem cell_zv {w wr : World} {B b off len : Nat} {Z : List Int} (h : Has w B (some ⟨b, off, none⟩) len (Z.map zv)) (hb : Below w.heap.size w wr) (hB : B ≤ w.heap.size) (k : Nat) (hk : k < len) (hk2 : k < Z.length) : wr.cell? ⟨b, off + k, none⟩ = some (.int .i64 Z[k]) := by
  obtain ⟨b', off', e, hlt, hc⟩ := h.at_ hk
  injection e with e
  injection e with e1 e2 _
  subst e1 e2
  rw [hb.cell (p := ⟨b, off + k, none⟩) (Nat.lt_of_lt_of_le hlt hB), hc, List.getElem_map]

theorem refEnc_long (A : Option Addr) (len cap : Nat) (w : World) (hl : 256 < len) :
    Calls Tryz.prog 50 #[.slice A len cap] w fun e w' => e = .returned (.tuple #[.string (bs []), .int .i64 3]) ∧ Below w.heap.size w w' := by
  have hd : decide ((256 : Int) < (len : Int)) = true := decide_eq_true (by omega)
  go_enter Tryz.func50, Tryz.ntmps50
  go_wp2
  go_ret2
  exact ⟨rfl, Below.refl _ _⟩

set_option maxRecDepth 20000 in
set_option maxHeartbeats 4000000 in
theorem refEnc_bad (Z : List Int) (hZ : ¬ Z.all ptZ = true) (hl : Z.length ≤ 256) (A : Option Addr) (len cap B : Nat) (w : World) (hA : Has w B A len (Z.map zv)) (hB : B ≤ w.heap.size) :
    Calls Tryz.prog 50 #[.slice A len cap] w fun e w' => e = .returned (.tuple #[.string (bs []), .int .i64 2]) ∧ Below w.heap.size w w' := by
  obtain ⟨i5, hi5, hz0, hz1, hz2⟩ := info_parts infoU8
  have hlen : len = Z.length := by have := hA.1; simpa using this.symm
  subst hlen
  have H := Lib.hid hA
  have HZ := Lib.hid hZ
  clear hA hZ
  have hd256 : decide ((256 : Int) < (Z.length : Int)) = false := decide_eq_false (by omega)
  go_enter Tryz.func50, Tryz.ntmps50
  go_wp2
  go_loopw [4, 5] (fun v i wr => ∃ (k : Nat) (O : List UInt8), k ≤ Z.length ∧ i = .int .i64 k ∧ Hid ((Z.take k).all ptZ = true) ∧ O.length ≤ k ∧ wr.ownsRow w.heap.size 5 1 v O.length (O.map bv) ∧ Below w.heap.size w wr) (fun _ i _ => Z.length - (intOf i).toNat)
  case atStart => exact ⟨0, [], Nat.zero_le _, rfl, Lib.hid rfl, by simp, World.ownsRow_nil _ _ _ _, Below.refl _ _⟩
  case round =>
    obtain ⟨k, O, hk, rfl, HALL, hOl, hown, hb⟩ := hrel
    by_cases hlt : k < Z.length
    · obtain ⟨b1, o1, rfl, l1, d1⟩ := H.out.2 (by omega)
      have g1 := cell_zv H.out hb hB k hlt hlt
      have c1 := refPoint_any Z[k]
      have htk : Z.take (k + 1) = Z.take k ++ [Z[k]] := List.take_succ_eq_append_getElem hlt
      obtain ⟨z, hz⟩ : ∃ z, z = Z[k] := ⟨_, rfl⟩
      rw [← hz] at g1 c1 htk
      clear d1 hz
      by_cases hpt : ptZ z = true
      · have HALL2 : Hid ((Z.take (k + 1)).all ptZ = true) := by
          show _ = _
          rw [htk, List.all_append, HALL.out]
          simpa using hpt
        have hz01 : 0 ≤ z ∧ z ≤ 1114111 := by
          unfold ptZ at hpt
          simp at hpt
          have := ptN_le hpt.2
          omega
        obtain ⟨hz0', hz1'⟩ := hz01
        rw [hpt] at c1
        clear htk hpt
        by_cases h128 : z < 128
        · have hd : decide (z < 128) = true := decide_eq_true h128
          obtain ⟨p, rfl⟩ : ∃ p : Nat, z = (p : Int) := ⟨z.toNat, by omega⟩
          have HBV := Lib.hid (bv_ofNat (p := p) (by omega))
          go_wp2_with (first | (go_at_call 65; refine (c1 _).mono ?_; rintro e w' ⟨rfl, rfl⟩) | (at_builtin; refine wpList_app_one wr rfl _ _ 24 rfl w.heap.size 5 i5 (.int .u8 0) 1 tyBs hi5 hz0 hz1 hz2 rfl _ (by exact rfl) _ _ _ (by exact rfl) hown (by exact rfl) (by unfold maxLen; omega) (by omega) hb (Nat.le_refl _) ?_; intro v' w' hown' hb' _))
          go_roundw
          case rel =>
            refine ⟨k + 1, O ++ [UInt8.ofNat p], by omega, by go_num, HALL2, by simp; omega, ?_, hb'⟩
            rw [List.map_append, List.length_append]
            simp only [List.map_cons, List.map_nil, HBV.out, List.length_singleton]
            exact hown'
          case measure => simp [intOf]; omega
        · have hd : decide (z < 128) = false := decide_eq_false h128
          go_wp2_with (go_at_call 65; refine (c1 _).mono ?_; rintro e w' ⟨rfl, rfl⟩)
          go_roundw
          case rel => exact ⟨k + 1, O, by omega, by go_num, HALL2, by omega, hown, hb⟩
          case measure => simp [intOf]; omega
      · rw [Bool.not_eq_true] at hpt
        rw [hpt] at c1
        clear htk hpt
        go_wp2_with (go_at_call 65; refine (c1 _).mono ?_; rintro e w' ⟨rfl, rfl⟩)
        go_ret2
        exact ⟨rfl, hb⟩
    · exfalso
      have e : k = Z.length := by omega
      have := HALL.out
      rw [e, List.take_length] at this
      exact HZ.out this

/-- The reference's Encode. -/
theorem refEnc_any (Z : List Int) (A : Option Addr) (len cap B : Nat) (w : World) (hA : Has w B A len (Z.map zv)) (hB : B ≤ w.heap.size) :
    Calls Tryz.prog 50 #[.slice A len cap] w fun e w' => e = .returned (.tuple #[.string (bs (encL Z).2), .int .i64 ((encL Z).1 : Nat)]) ∧ Below w.heap.size w w' := by
  have hlen : len = Z.length := by have := hA.1; simpa using this.symm
  by_cases h1 : 256 < Z.length
  · have e : encL Z = (3, []) := by unfold encL; rw [if_pos h1]
    rw [e]
    exact refEnc_long A len cap w (by omega)
  · by_cases h2 : Z.all ptZ = true
    · have e : encL Z = (0, encB (Z.map Int.toNat)) := by unfold encL; rw [if_neg h1, if_pos h2]
      obtain ⟨hP, hZ⟩ := all_pt h2
      rw [e]
      refine refEnc_ok _ hP (by rw [List.length_map]; omega) A len cap B w ?_ hB
      rw [iv_zv, hZ]
      exact hA
    · have e : encL Z = (2, []) := by unfold encL; rw [if_neg h1, if_neg h2]
      rw [e]
      exact refEnc_bad Z h2 (by omega) A len cap B w hA hB
end

end Go.Proofs.YthoolifdmemceaaGreatDoor
