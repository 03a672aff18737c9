/-
Contracts of hexText and Format of the reference of layer 11 (written by tools/gen-I64.py).
What every walk of a statement ends in. No program.
The powers of ten that Go's own library reads lie in the world; what is made beside them leaves them there.
The tables that Go's own library reads to append a number, to the base 10 or 16, lie in the world; what is made beside them leaves them there.
What is asked of package ipv6's functions, in plain words; equality of arrays.
Equality of hosts.
-/
import Derived.Test.YtpccpgihldpiiaaGreatDoorC10
import Derived.Test.YtpccpgihldpiiaaGreatDoorC05
import Derived.Test.YtpccpgihldpiiaaGreatDoorC00
import Derived.Test.YtpccpgihldpiiaaGreatDoorRows
import Derived.Below
import Derived.Lib.LaidTab
import Derived.Lib.ItoaNum
import Derived.ChangeKeysEq
import Derived.Deep.Cut
import Derived.Test.YtpccpgihldpiiaaGreatDoorC09
import Derived.Laws.StructEq
namespace Go.Proofs.YtpccpgihldpiiaaGreatDoor
section
open Go.RowKit

theorem pow16 : (16 : Nat) ^ (3 + 1) = 65536 := by decide
theorem hexT_len4 (v : Nat) (hv : v < 65536) : (digsB 16 v).length ≤ 11 := by have := (hexT_len v hv).2; unfold hexT at this; omega
set_option maxRecDepth 20000 in
set_option maxHeartbeats 4000000 in
theorem refHexText_any (n : Nat) (hn : n < 65536) (w : World) :
    Calls Tryz.prog 192 #[.int .u16 (n : Int)] w fun e w' => e = .returned (.string (bs (hexT n))) ∧ w = w' := by
  have hn40 : n < 1099511627776 := by omega
  have hlenn := hexT_len4 n hn
  go_enter Tryz.func192, Tryz.ntmps192
  go_wp2
  go_loop [3, 4] (fun v i => ∃ (m : Nat) (L : List UInt8) (X : ByteArray), m < 65536 ∧ i = .int .u16 m ∧ v = .string X ∧ Hid (X = bs L) ∧ Hid (Digs 16 n m L)) (fun v i => 2 * (intOf i).toNat + strE v)
  case atStart => exact ⟨n, [], _, hn, rfl, rfl, Lib.hid rfl, Lib.hid (.inl ⟨rfl, rfl⟩)⟩
  case round =>
    obtain ⟨m, L, X, hm, rfl, rfl, HX, HD⟩ := hrel
    by_cases h0 : 0 < m
    · have hd : decide ((0 : Int) < (m : Int)) = true := decide_eq_true (by omega)
      have HC : Hid (0 < m ∨ L = []) := Lib.hid (.inl h0)
      have hm40 : m < 1099511627776 := by omega
      obtain ⟨q, hq⟩ : ∃ q, q = m / 16 := ⟨_, rfl⟩
      obtain ⟨r, hr⟩ : ∃ r, r = m % 16 := ⟨_, rfl⟩
      have hqi : (m : Int) / 16 = (q : Int) := by omega
      have hri : (m : Int) % 16 = (r : Int) := by omega
      have hr16 : r < 16 := by omega
      have hri2 : (r : Int) < 16 := by omega
      have hx := hex_lit ⟨r, hr16⟩
      simp only at hx
      have HNX : Hid (Digs 16 n q (hexc r :: L)) := by rw [hq, hr]; exact Lib.hid (HD.out.next (by omega) hn40 hm40 HC.out)
      have hlen := HD.out.len hlenn
      have hsz : ¬ (9223372036854775807 < ((⟨#[48, 49, 50, 51, 52, 53, 54, 55, 56, 57, 97, 98, 99, 100, 101, 102]⟩ : ByteArray).extract r (r + 1)).size + X.size) := by rw [hx, HX.out, bs_size, bs_size]; simp; omega
      have HS : Hid ((⟨#[48, 49, 50, 51, 52, 53, 54, 55, 56, 57, 97, 98, 99, 100, 101, 102]⟩ : ByteArray).extract r (r + 1) ++ X = bs (hexc r :: L)) := by show _ = _; rw [hx, HX.out]; exact bs_add [hexc r] L
      have HQ := Lib.hid hq
      clear hq hr hx hlen
      go_wp2
      go_round
      case rel => exact ⟨q, hexc r :: L, _, by have := HQ.out; omega, rfl, rfl, Lib.hid HS.out, HNX⟩
      case measure =>
        have h1 := HQ.out
        have h2 : ((⟨#[48, 49, 50, 51, 52, 53, 54, 55, 56, 57, 97, 98, 99, 100, 101, 102]⟩ : ByteArray).extract r (r + 1) ++ X).size ≠ 0 := by rw [HS.out, bs_size]; simp
        simp only [intOf, strE, if_neg h2]
        omega
    · have hd : decide ((0 : Int) < (m : Int)) = false := decide_eq_false (by omega)
      have HM0 : Hid (m = 0) := Lib.hid (by omega)
      by_cases hL : L = []
      · have he : (X.toList == ([] : List UInt8)) = true := by rw [HX.out, bs_empty, decide_eq_true hL]
        have HC : Hid (0 < m ∨ L = []) := Lib.hid (.inr hL)
        have HL0 := Lib.hid hL
        obtain rfl : m = 0 := HM0.out
        have hw1 : IntKind.u16.wrap 1 = 1 := by decide
        have hsz : ¬ (9223372036854775807 < ((⟨#[48, 49, 50, 51, 52, 53, 54, 55, 56, 57, 97, 98, 99, 100, 101, 102]⟩ : ByteArray).extract 0 1).size + X.size) := by rw [HX.out, HL0.out, bs_size, ByteArray.size_extract]; simp; omega
        have HS : Hid ((⟨#[48, 49, 50, 51, 52, 53, 54, 55, 56, 57, 97, 98, 99, 100, 101, 102]⟩ : ByteArray).extract 0 1 ++ X = bs [hexc 0]) := by show _ = _; rw [HX.out, HL0.out, hex_lit ⟨0, by omega⟩]; exact bs_add [hexc 0] []
        have HNX : Hid (Digs 16 n 0 [hexc 0]) := by
          have h := HD.out.next (b := 16) (by omega) hn40 (by omega) HC.out
          rw [HL0.out, Nat.zero_mod, Nat.zero_div] at h
          exact Lib.hid h
        clear hL h0 HM0 hd
        go_wp2
        go_round
        case rel => exact ⟨0, [hexc 0], _, by omega, rfl, rfl, Lib.hid HS.out, HNX⟩
        case measure =>
          have h2 : ((⟨#[48, 49, 50, 51, 52, 53, 54, 55, 56, 57, 97, 98, 99, 100, 101, 102]⟩ : ByteArray).extract 0 1 ++ X).size ≠ 0 := by rw [HS.out, bs_size]; simp
          have h3 : X.size = 0 := by rw [HX.out, HL0.out]; rfl
          simp only [intOf, strE, if_neg h2, h3, if_true]
          omega
      · have he : (X.toList == ([] : List UInt8)) = false := by rw [HX.out, bs_empty, decide_eq_false hL]
        have hfin : L = digsB 16 n := by have h := HD.out; rw [HM0.out] at h; exact h.fin hL
        have HXL : Hid (X = bs (hexT n)) := by show _ = _; rw [HX.out, hfin]; rfl
        clear h0 hL
        go_wp2
        go_ret
        exact ⟨ret_str HXL.out, rfl⟩

theorem sub_bs (X : ByteArray) (l : List UInt8) (h : X = bs l) (q : Nat) (hq : q + 1 = l.length) (hX : q < X.size) : l.getLast? = some X[q] := by
  have e := ls_getE X q hX
  have e2 : ls X = l := by rw [h, ls_bs]
  rw [List.getLast?_eq_getElem?, show l.length - 1 = q by omega, List.getElem?_eq_getElem (by omega)]
  congr 1
  have e3 : (ls X)[q]'(by rw [ls_length]; exact hX) = l[q] := by simp only [e2]
  rw [← e3]; exact e _
theorem bs_add3 (X : ByteArray) (l a b : List UInt8) (h : X = bs l) : X ++ bs a ++ bs b = bs (l ++ (a ++ b)) := by
  rw [h, bs_add, bs_add, List.append_assoc]

set_option maxRecDepth 20000 in
set_option maxHeartbeats 8000000 in
theorem refFormat6_any (a : List Nat) (ha : a.length = 8) (hg : G16 a) (w : World) :
    Calls Tryz.prog 157 #[.agg (av a)] w fun e w' => e = .returned (.string (bs (fmt6 a))) ∧ Below w.heap.size w w' := by
  have HG := Lib.hid hg
  have HA := Lib.hid ha
  go_enter Tryz.func157, Tryz.ntmps157
  go_wp2_with (refine wpList_box_arr _ rfl 1 rfl _ _ rfl _ (av a) (by exact rfl) (by exact rfl) ?_; intro W1 g1 hg1 hl1 hR1 hG1)
  have hb1 := below_row0 (Below.refl w.heap.size w) hG1 (Nat.le_refl _)
  have hcell : ∀ k, k < 8 → W1.cell? ⟨g1, k, none⟩ = some (.int .u16 ((a.getD k 0 : Nat) : Int)) := fun k hk => RowA.cell (C := a) hR1 (by rw [ha]; exact hk)
  have hgr : ∀ k, k < 8 → a.getD k 0 < 65536 := fun k hk => hg _ (by rw [List.getD_eq_getElem?_getD, List.getElem?_eq_getElem (by omega), Option.getD_some]; exact List.getElem_mem (by omega))
  have HCL := Lib.hid hcell
  have HGR := Lib.hid hgr
  clear hR1 hG1 hcell hgr hg ha hg1 hl1
  go_loop [3, 4, 5] (fun t m i => ∃ (k : Nat), k ≤ 8 ∧ i = .int .i64 k ∧ t = .int .i64 (bestUpto a k).1 ∧ m = .int .i64 ((bestUpto a k).2 : Nat)) (fun _ _ i => 8 - (intOf i).toNat)
  case atStart => exact ⟨0, Nat.zero_le _, rfl, rfl, rfl⟩
  case round =>
    obtain ⟨k, hk, rfl, rfl, rfl⟩ := hrel
    have HS := Lib.hid (bestUpto_succ a k)
    have hbm : (bestUpto a k).2 ≤ 8 := by
      rcases best_is a k with e | ⟨i, m, _, e, _, h⟩ <;> rw [e]
      · show 1 ≤ 8; omega
      · show m ≤ 8
        have := zrun_le (a.drop i)
        rw [List.length_drop, HA.out] at this
        omega
    by_cases hlt : k < 8
    · obtain ⟨tv, htv⟩ : ∃ t : Int, t = (bestUpto a k).1 := ⟨_, rfl⟩
      obtain ⟨mv, hmv⟩ : ∃ m : Nat, m = (bestUpto a k).2 := ⟨_, rfl⟩
      rw [← htv, ← hmv]
      rw [← hmv] at hbm
      have HBE : Hid (bestUpto a k = (tv, mv)) := by show _ = _; rw [htv, hmv]
      clear htv hmv
      go_wp2
      go_loop [6] (fun n => ∃ q : Nat, k + q ≤ 8 ∧ n = .int .i64 q ∧ Hid (q ≤ zrun (a.drop k))) (fun n => 8 - (intOf n).toNat)
      case atStart => exact ⟨0, by omega, rfl, Lib.hid (Nat.zero_le _)⟩
      case round =>
        obtain ⟨q, hq, rfl, HZ⟩ := hrel
        obtain ⟨s, hs⟩ : ∃ s, s = k + q := ⟨_, rfl⟩
        have hsi : (k : Int) + (q : Int) = (s : Int) := by omega
        have HSQ := Lib.hid hs
        have hs8 : s ≤ 8 := by omega
        have hq8 : q ≤ 8 := by omega
        clear hs hq
        by_cases hs8' : s < 8
        · have hc := HCL.out s hs8'
          have hgs := HGR.out s hs8'
          have hdg : (a.drop k).getD q 0 = a.getD s 0 := by
            rw [List.getD_eq_getElem?_getD, List.getElem?_drop, ← HSQ.out, List.getD_eq_getElem?_getD]
          obtain ⟨x, hx⟩ : ∃ x, x = a.getD s 0 := ⟨_, rfl⟩
          rw [← hx] at hc hgs hdg
          have HDG := Lib.hid hdg
          clear hx hdg
          by_cases hx0 : x = 0
          · have hq0 : ((x : Int) == 0) = true := by simp [hx0]
            have HZ2 : Hid (q + 1 ≤ zrun (a.drop k)) := Lib.hid (zrun_more _ q HZ.out (by rw [List.length_drop, HA.out]; have := HSQ.out; omega) (by rw [HDG.out, hx0]))
            clear hx0
            go_wp2
            go_round
            case rel => exact ⟨q + 1, by have := HSQ.out; omega, by go_num, HZ2⟩
            case measure => simp [intOf]; have := HSQ.out; omega
          · have hq0 : ((x : Int) == 0) = false := by simp; omega
            have HZ2 : Hid (zrun (a.drop k) = q) := Lib.hid (zrun_stop _ q HZ.out (.inr ⟨by rw [List.length_drop, HA.out]; have := HSQ.out; omega, by rw [HDG.out]; exact hx0⟩))
            clear hx0
            by_cases hgt : mv < q
            · have hdm : decide ((mv : Int) < (q : Int)) = true := decide_eq_true (by omega)
              have HB2 : Hid (bestUpto a (k + 1) = ((k : Int), q)) := by
                show _ = _
                rw [HS.out]; unfold bestStep; rw [HBE.out, HZ2.out, if_pos hgt]
              go_wp2
              go_round
              case rel => exact ⟨k + 1, by omega, by go_num, by rw [HB2.out], by rw [HB2.out]⟩
              case measure => simp [intOf]; omega
            · have hdm : decide ((mv : Int) < (q : Int)) = false := decide_eq_false (by omega)
              have HB2 : Hid (bestUpto a (k + 1) = (tv, mv)) := by
                show _ = _
                rw [HS.out]; unfold bestStep; rw [HBE.out, HZ2.out, if_neg hgt]
              go_wp2
              go_round
              case rel => exact ⟨k + 1, by omega, by go_num, by rw [HB2.out], by rw [HB2.out]⟩
              case measure => simp [intOf]; omega
        · have hd8 : decide ((s : Int) < 8) = false := decide_eq_false (by omega)
          have HZ2 : Hid (zrun (a.drop k) = q) := Lib.hid (zrun_stop _ q HZ.out (.inl (by rw [List.length_drop, HA.out]; have := HSQ.out; omega)))
          by_cases hgt : mv < q
          · have hdm : decide ((mv : Int) < (q : Int)) = true := decide_eq_true (by omega)
            have HB2 : Hid (bestUpto a (k + 1) = ((k : Int), q)) := by
              show _ = _
              rw [HS.out]; unfold bestStep; rw [HBE.out, HZ2.out, if_pos hgt]
            go_wp2
            go_round
            case rel => exact ⟨k + 1, by omega, by go_num, by rw [HB2.out], by rw [HB2.out]⟩
            case measure => simp [intOf]; omega
          · have hdm : decide ((mv : Int) < (q : Int)) = false := decide_eq_false (by omega)
            have HB2 : Hid (bestUpto a (k + 1) = (tv, mv)) := by
              show _ = _
              rw [HS.out]; unfold bestStep; rw [HBE.out, HZ2.out, if_neg hgt]
            go_wp2
            go_round
            case rel => exact ⟨k + 1, by omega, by go_num, by rw [HB2.out], by rw [HB2.out]⟩
            case measure => simp [intOf]; omega
    · obtain rfl : k = 8 := by omega
      obtain ⟨t, ht⟩ : ∃ t : Int, t = (bestUpto a 8).1 := ⟨_, rfl⟩
      obtain ⟨m, hm⟩ : ∃ m : Nat, m = (bestUpto a 8).2 := ⟨_, rfl⟩
      have HF : Hid (fmt6 a = txt6 a t m 8) := by show _ = _; unfold fmt6; rw [← ht, ← hm]
      have HTM : Hid (1 ≤ m ∧ (t = -1 ∨ ∃ i : Nat, t = (i : Int) ∧ i + m ≤ 8)) := by
        refine Lib.hid ?_
        rcases best_is a 8 with e | ⟨i, m', hi, e, h2, h3⟩
        · rw [hm, ht, e]; exact ⟨Nat.le_refl _, .inl rfl⟩
        · rw [hm, ht, e]
          refine ⟨by show 1 ≤ m'; omega, .inr ⟨i, rfl, ?_⟩⟩
          have := zrun_le (a.drop i)
          rw [List.length_drop, HA.out] at this
          show i + m' ≤ 8
          omega
      rw [← ht, ← hm]
      rw [← hm] at hbm
      have ht0 : -1 ≤ t := by rcases HTM.out.2 with h | ⟨i, h, _⟩ <;> omega
      have ht8 : t ≤ 8 := by rcases HTM.out.2 with h | ⟨i, h, _⟩ <;> omega
      have hm1 : 1 ≤ m := HTM.out.1
      clear ht hm HS
      go_wp2
      go_loop [7, 8] (fun v i => ∃ (k : Nat) (X : ByteArray), k ≤ 8 ∧ i = .int .i64 k ∧ v = .string X ∧ X.size ≤ 82 ∧ Hid (X = bs (txt6 a t m k)) ∧ Hid (t < 0 ∨ (k : Int) ≤ t ∨ t + (m : Int) ≤ (k : Int))) (fun _ i => 8 - (intOf i).toNat)
      case atStart => exact ⟨0, _, by omega, rfl, rfl, by decide, Lib.hid (by rw [txt6_zero a t m (by omega)]; rfl), Lib.hid (by omega)⟩
      case round =>
        obtain ⟨k, X, hk, rfl, rfl, hXs, HX, HK⟩ := hrel
        by_cases hlt : k < 8
        · by_cases hkt : (k : Int) = t
          · have hq : ((k : Int) == t) = true := by simp [hkt]
            obtain ⟨k2, hk2⟩ : ∃ k2 : Nat, k2 + 1 = k + m := ⟨k + m - 1, by omega⟩
            have hks : (k : Int) + ((m : Int) - 1) = (k2 : Int) := by omega
            have hkm : k + m ≤ 8 := by
              rcases HTM.out.2 with h | ⟨i, h, h'⟩ <;> omega
            have hadd : ¬ (9223372036854775807 < X.size + (⟨#[58, 58]⟩ : ByteArray).size) := by have : (⟨#[58, 58]⟩ : ByteArray).size = 2 := rfl; omega
            have HX2 : Hid (X ++ (⟨#[58, 58]⟩ : ByteArray) = bs (txt6 a t m (k + m))) := by
              show _ = _
              rw [← hkt, txt6_at a k m (by omega) (by rw [HA.out]; exact hkm), HX.out, ← hkt]
              exact bs_add _ [58, 58]
            have HKM := Lib.hid hk2
            have HKT := Lib.hid hkt
            have hkb : k + m ≤ 8 := hkm
            have hk2b : k2 ≤ 8 := by omega
            have hmi : (m : Int) ≤ 8 := by omega
            clear hk2 hkt
            go_wp2
            go_round
            case rel => exact ⟨k2 + 1, _, by have := HKM.out; omega, by go_num, rfl, by rw [HX2.out, bs_size]; exact txt6_len a HG.out t m _ (by omega), Lib.hid (by rw [HKM.out]; exact HX2.out), Lib.hid (by have := HKM.out; have := HKT.out; omega)⟩
            case measure => simp [intOf]; have := HKM.out; omega
          · have hq : ((k : Int) == t) = false := by simp [hkt]
            have hc := HCL.out k hlt
            have hgs := HGR.out k hlt
            obtain ⟨x, hx⟩ : ∃ x, x = a.getD k 0 := ⟨_, rfl⟩
            rw [← hx] at hc hgs
            have c1 := refHexText_any x hgs
            have hlx := (hexT_len x hgs).2
            have HSTEP : Hid (txt6 a t m (k + 1) = txt6 a t m k ++ ((if k = 0 ∨ (0 ≤ t ∧ (k : Int) = t + (m : Int)) then [] else [58]) ++ hexT x)) := by
              show _ = _
              rcases HK.out with h | h | h
              · rw [hx, txt6_pre a t m k (by rw [HA.out]; exact hlt) (.inl h)]
                congr 2
                by_cases h0 : k = 0
                · rw [if_pos h0, if_pos (.inl h0)]
                · rw [if_neg h0, if_neg (by omega)]
              · rw [hx, txt6_pre a t m k (by rw [HA.out]; exact hlt) (.inr (by omega))]
                congr 2
                by_cases h0 : k = 0
                · rw [if_pos h0, if_pos (.inl h0)]
                · rw [if_neg h0, if_neg (by omega)]
              · rcases HTM.out.2 with h' | ⟨i, h', h''⟩
                · rw [hx, txt6_pre a t m k (by rw [HA.out]; exact hlt) (.inl (by omega))]
                  congr 2
                  by_cases h0 : k = 0
                  · rw [if_pos h0, if_pos (.inl h0)]
                  · rw [if_neg h0, if_neg (by omega)]
                · subst h'
                  rw [hx, txt6_post a i m k (by rw [HA.out]; exact hlt) (by omega) (by omega)]
                  congr 2
                  by_cases h0 : k = i + m
                  · rw [if_pos h0, if_pos (.inr (by omega))]
                  · rw [if_neg h0, if_neg (by omega)]
            have HKN : Hid (t < 0 ∨ ((k + 1 : Nat) : Int) ≤ t ∨ t + (m : Int) ≤ ((k + 1 : Nat) : Int)) := by
              refine Lib.hid ?_
              rcases HK.out with h | h | h <;> omega
            have HLN : Hid (∀ l, l = hexT x → l.length ≤ 4) := Lib.hid fun l h => by rw [h]; exact hlx
            have hhs : (bs (hexT x)).size ≤ 4 := by rw [bs_size]; exact hlx
            obtain ⟨H, hH⟩ : ∃ H, H = bs (hexT x) := ⟨_, rfl⟩
            rw [← hH] at c1 hhs
            have HH := Lib.hid hH
            clear hx hlx hH
            by_cases hcol : k = 0 ∨ (0 ≤ t ∧ (k : Int) = t + (m : Int))
            · have HN : Hid (X ++ H = bs (txt6 a t m (k + 1))) := by
                show _ = _
                rw [HSTEP.out, if_pos hcol, List.nil_append, HX.out, HH.out]
                exact bs_add _ _
              have hadd : ¬ (9223372036854775807 < X.size + H.size) := by omega
              by_cases hk0 : k = 0
              · have hXe : (X.toList != ([] : List UInt8)) = false := by
                  rw [bne, HX.out, hk0, txt6_zero a t m (by omega), bs_empty]; rfl
                have hXm : X.toList.isEmpty = true := by
                  rw [HX.out, hk0, txt6_zero a t m (by omega), toList_ls, ls_bs]; rfl
                obtain rfl := hk0
                clear hcol
                go_wp2_with (go_at_call 192; refine (c1 _).mono ?_; rintro e w' ⟨rfl, rfl⟩)
                go_round
                case rel => exact ⟨0 + 1, _, by omega, by go_num, rfl, by rw [HN.out, bs_size]; exact txt6_len a HG.out t m _ (by omega), Lib.hid HN.out, HKN⟩
                case measure => simp [intOf]
              · have HC2 : Hid (0 ≤ t ∧ (k : Int) = t + (m : Int)) := Lib.hid (hcol.resolve_left hk0)
                have hlast : txt6 a t m k ≠ [] ∧ (txt6 a t m k).getLast? = some 58 := by
                  rcases HTM.out.2 with h' | ⟨i, h', h''⟩
                  · have := HC2.out; omega
                  · have hki : k = i + m := by have := HC2.out; omega
                    rw [h', hki]
                    exact txt6_last_at a i m (by omega) (by rw [HA.out]; exact h'')
                obtain ⟨hl1, hl2⟩ := hlast
                have hXe : (X.toList != ([] : List UInt8)) = true := by
                  rw [bne, HX.out, bs_empty, decide_eq_false hl1]; rfl
                have hXm : X.toList.isEmpty = false := by
                  rw [HX.out, toList_ls, ls_bs]
                  cases hc : txt6 a t m k with
                  | nil => exact absurd hc hl1
                  | cons c r => rfl
                have hpos : 0 < X.size := by rw [HX.out, bs_size]; exact List.length_pos_iff.2 hl1
                obtain ⟨q, hq1⟩ : ∃ q, q + 1 = X.size := ⟨X.size - 1, by omega⟩
                have hqs : (X.size : Int) - 1 = (q : Int) := by omega
                have hqX : q < X.size := by omega
                have hqc : ((X[q].toNat : Int) != 58) = false := by
                  have h := sub_bs X _ HX.out q (by rw [hq1, HX.out, bs_size]) hqX
                  rw [hl2] at h
                  injection h with h
                  rw [← h]; rfl
                clear hcol hl1 hl2 hq1 hpos
                go_wp2_with (go_at_call 192; refine (c1 _).mono ?_; rintro e w' ⟨rfl, rfl⟩)
                go_round
                case rel => exact ⟨k + 1, _, by omega, by go_num, rfl, by rw [HN.out, bs_size]; exact txt6_len a HG.out t m _ (by omega), Lib.hid HN.out, HKN⟩
                case measure => simp [intOf]; omega
            · have HN : Hid (X ++ (⟨#[58]⟩ : ByteArray) ++ H = bs (txt6 a t m (k + 1))) := by
                show _ = _
                rw [HSTEP.out, if_neg hcol, HH.out]
                exact bs_add3 X _ [58] _ HX.out
              have hlast : txt6 a t m k ≠ [] ∧ (txt6 a t m k).getLast? ≠ some 58 := by
                rcases HK.out with h | h | h
                · exact txt6_last_pre a HG.out t m k (by rw [HA.out]; exact hk) (by omega) (.inl h)
                · exact txt6_last_pre a HG.out t m k (by rw [HA.out]; exact hk) (by omega) (.inr h)
                · rcases HTM.out.2 with h' | ⟨i, h', h''⟩
                  · exact txt6_last_pre a HG.out t m k (by rw [HA.out]; exact hk) (by omega) (.inl (by omega))
                  · rw [h'] at h hcol ⊢
                    exact txt6_last_post a HG.out i m k (by rw [HA.out]; exact hk) (by omega) (by omega)
              obtain ⟨hl1, hl2⟩ := hlast
              have hXe : (X.toList != ([] : List UInt8)) = true := by
                rw [bne, HX.out, bs_empty, decide_eq_false hl1]; rfl
              have hXm : X.toList.isEmpty = false := by
                rw [HX.out, toList_ls, ls_bs]
                cases hc : txt6 a t m k with
                | nil => exact absurd hc hl1
                | cons c r => rfl
              have hpos : 0 < X.size := by rw [HX.out, bs_size]; exact List.length_pos_iff.2 hl1
              obtain ⟨q, hq1⟩ : ∃ q, q + 1 = X.size := ⟨X.size - 1, by omega⟩
              have hqs : (X.size : Int) - 1 = (q : Int) := by omega
              have hqX : q < X.size := by omega
              have hqc : ((X[q].toNat : Int) != 58) = true := by
                have h := sub_bs X _ HX.out q (by rw [hq1, HX.out, bs_size]) hqX
                rw [h] at hl2
                simp only [bne_iff_ne, ne_eq]
                intro e
                exact hl2 (by rw [UInt8.toNat_inj.1 (show X[q].toNat = (58 : UInt8).toNat by rw [show (58 : UInt8).toNat = 58 from rfl]; omega)])
              have hadd : ¬ (9223372036854775807 < X.size + (⟨#[58]⟩ : ByteArray).size) := by have : (⟨#[58]⟩ : ByteArray).size = 1 := rfl; omega
              have hadd2 : ¬ (9223372036854775807 < (X ++ (⟨#[58]⟩ : ByteArray)).size + H.size) := by rw [ByteArray.size_append]; have : (⟨#[58]⟩ : ByteArray).size = 1 := rfl; omega
              clear hcol hl1 hl2 hq1 hpos
              go_wp2_with (go_at_call 192; refine (c1 _).mono ?_; rintro e w' ⟨rfl, rfl⟩)
              go_round
              case rel => exact ⟨k + 1, _, by omega, by go_num, rfl, by rw [HN.out, bs_size]; exact txt6_len a HG.out t m _ (by omega), Lib.hid HN.out, HKN⟩
              case measure => simp [intOf]; omega
        · obtain rfl : k = 8 := by omega
          go_wp2
          go_ret
          exact ⟨ret_str (by rw [HX.out, HF.out]), hb1⟩
end

section
open Go.RowKit

def Yes (w : World) (e : Ending) (w' : World) : Prop := e = .returned (.bool true) ∧ Below w.heap.size w w'
theorem yes_of {w w1 w' : World} {e : Ending} (hb : Below w.heap.size w w1) (h : Yes w1 e w') : Yes w e w' := ⟨h.1, hb.trans (h.2.mono hb.size)⟩
end

section
open Go.RowKit

/-- The variable's name. -/
def tabN : String := Rows.hostParseMatchesSpecRow.named.head (List.cons_ne_nil _ _)
/-- The variable holds the powers of ten. -/
def Pow (w : World) : Prop := Lib.TabIs Tryz.prog w tabN .u64 Lib.pow10Tab
theorem var_below {P : Program} {w w' : World} {n : String} {cs : Array Value} (h : w.var? P n = some cs) (hb : Below w.heap.size w w') : w'.var? P n = some cs := by
  unfold World.var? at h ⊢
  cases hg : P.globalNamed n with
  | none => rw [hg] at h; exact h
  | some g =>
    rw [hg] at h
    simp only [Option.bind_some] at h ⊢
    by_cases hlt : g < w.heap.size
    · rw [hb.block g hlt]
      exact h
    · rw [Array.getElem?_eq_none (by omega)] at h
      cases h
theorem pow_below {w w' : World} (h : Pow w) (hb : Below w.heap.size w w') : Pow w' := var_below h hb
theorem pow_drew {w : World} (h : Pow w) : Pow w.drew := h
theorem pow_drewN {w : World} (h : Pow w) (k : Nat) : Pow (w.drewN k) := h
end

section
open Go.RowKit

/-- The powers of ten, and the one entry that is read to the base 16. -/
def Pow6 (w : World) : Prop := Pow w ∧ w.cell? ⟨7, 15, none⟩ = some (.int .u8 4)
theorem cell_block {w : World} {b j : Nat} {v : Value} (h : w.cell? ⟨b, j, none⟩ = some v) : b < w.heap.size := by
  by_cases hb : b < w.heap.size
  · exact hb
  · exfalso
    have : w.heap[b]? = none := Array.getElem?_eq_none (by omega)
    simp [World.cell?, this] at h
theorem pow6_below {w w' : World} (h : Pow6 w) (hb : Below w.heap.size w w') : Pow6 w' :=
  ⟨pow_below h.1 hb, (hb.cell (cell_block h.2)).trans h.2⟩
theorem pow6_drew {w : World} (h : Pow6 w) : Pow6 w.drew := h
theorem pow6_drewN {w : World} (h : Pow6 w) (k : Nat) : Pow6 (w.drewN k) := h
end

section
open Go.RowKit

def P6Par (F : FuncId) : Prop := ∀ (s : ByteArray) (w : World), s.size ≤ 1000000000 → Pow6 w → Calls Tryz.prog F #[.string s] w fun e w' => e = .returned (.tuple #[.agg (av (arr6 (parse6 (ls s)))), .bool (parse6 (ls s)).isSome]) ∧ Below w.heap.size w w'
def P6Fmt (F : FuncId) : Prop := ∀ (a : List Nat), a.length = 8 → G16 a → ∀ w : World, Pow6 w → Calls Tryz.prog F #[.agg (av a)] w fun e w' => e = .returned (.string (bs (fmt6 a))) ∧ Below w.heap.size w w'

theorem ex6_a : parse6 (ls ⟨#[50, 48, 48, 49, 58, 68, 66, 56, 58, 58, 49, 58, 48, 58, 48, 58, 49]⟩) = some [8193, 3512, 0, 0, 1, 0, 0, 1] := by decide +kernel
theorem ex6_b : parse6 (ls ⟨#[49, 58, 58, 50, 58, 58, 51]⟩) = none := by decide +kernel
theorem ex6_c : fmt6 [8193, 3512, 0, 0, 1, 0, 0, 1] = [50, 48, 48, 49, 58, 100, 98, 56, 58, 58, 49, 58, 48, 58, 48, 58, 49] := by decide +kernel
theorem ex6_d : fmt6 (zerosN 8) = [58, 58] := by decide +kernel
theorem ex6_g : G16 [8193, 3512, 0, 0, 1, 0, 0, 1] := by intro x hx; simp at hx; omega
theorem G16.zeros (n : Nat) : G16 (zerosN n) := by intro x hx; have := (List.mem_replicate.1 hx).2; omega

/-- Whether two arrays are equal. -/
theorem eqItems_av (W : World) (C D : List Nat) : ∀ is : List Nat, (∀ i ∈ is, i < C.length ∧ i < D.length) → (Op.eqItems 9999 24 1 (av C) (av D) is).run Tryz.prog W = .ok (is.all fun i => C.getD i 0 == D.getD i 0) W
  | [], _ => by simp [Op.eqItems]
  | i :: r, h => by
    have hi := h i (by simp)
    have ih := eqItems_av W C D r (fun j hj => h j (by simp [hj]))
    have e1 := av_get C i hi.1
    have e2 := av_get D i hi.2
    have hp : ∀ E : List Nat, i < E.length → (part 24 (av E) (i * 1)).run Tryz.prog W = .ok (.int .u16 ((E.getD i 0 : Nat) : Int)) W := by
      intro E hE
      have e := av_get E i hE
      obtain ⟨q, hq, _⟩ : ∃ q, Tryz.prog.info? 24 = some q ∧ q.size = 1 := by
        cases hq : Tryz.prog.info? 24 with
        | none => have := sizeU16; rw [hq] at this; cases this
        | some q => have := sizeU16; rw [hq] at this; exact ⟨q, rfl, by simpa using this⟩
      rename_i hs
      simp [part, run_underlying tyU16, isAgg, sizeOf, typeInfo, e, Result.andThen]
    have heq : (Op.equalIn 9999 24 (.int .u16 ((C.getD i 0 : Nat) : Int)) (.int .u16 ((D.getD i 0 : Nat) : Int))).run Tryz.prog W = .ok (((C.getD i 0 : Nat) : Int) == ((D.getD i 0 : Nat) : Int)) W :=
      run_equalIn_int W 9998 24 .u16 .u16 _ _ tyU16
    have hb : (((C.getD i 0 : Nat) : Int) == ((D.getD i 0 : Nat) : Int)) = (C.getD i 0 == D.getD i 0) := by
      apply Bool.eq_iff_iff.2
      simp only [beq_iff_eq]
      omega
    simp only [Op.eqItems, Sem.run_bind, hp C hi.1, hp D hi.2, Result.andThen_ok, heq, hb, List.all_cons]
    cases hc : (C.getD i 0 == D.getD i 0) with
    | true => simpa using ih
    | false => simp
theorem cellsU16 : Tryz.prog.cellsOf 24 = 1 := by kernel_rfl
theorem eq_av (C D : List Nat) (hC : C.length = 8) (hD : D.length = 8) : ∀ W, (binOp .eql 25 (.agg (av C)) (.agg (av D))).run Tryz.prog W = .ok (.bool (decide (C = D))) W := by
  intro W
  obtain ⟨q, hq⟩ : ∃ q, Tryz.prog.info? 24 = some q := by
    cases hq : Tryz.prog.info? 24 with
    | none => have := sizeU16; rw [hq] at this; cases this
    | some q => exact ⟨q, rfl⟩
  have h1 := run_equalIn_array (w := W) 9999 (av C) (av D) tyA8 hq
  rw [cellsU16, eqItems_av W C D (List.range 8) (fun i hi => by have := List.mem_range.1 hi; omega)] at h1
  have hall : ((List.range 8).all fun i => C.getD i 0 == D.getD i 0) = decide (C = D) := by
    apply Bool.eq_iff_iff.2
    rw [List.all_eq_true, decide_eq_true_iff]
    constructor
    · intro h
      apply List.ext_getElem (by omega)
      intro i h1 h2
      have := h i (List.mem_range.2 (by omega))
      simpa [List.getD_eq_getElem?_getD, List.getElem?_eq_getElem h1, List.getElem?_eq_getElem h2] using this
    · intro h i _
      rw [h]; simp
  rw [hall] at h1
  rw [run_eql_struct, h1]
  rfl
end

section
open Go.RowKit

/-- Whether two arrays are equal. -/
theorem eqItems8 (W : World) (C D : List Nat) : ∀ is : List Nat, (∀ i ∈ is, i < C.length ∧ i < D.length) → (Op.eqItems 9998 24 1 (av C) (av D) is).run Tryz.prog W = .ok (is.all fun i => C.getD i 0 == D.getD i 0) W
  | [], _ => by simp [Op.eqItems]
  | i :: r, h => by
    have hi := h i (by simp)
    have ih := eqItems8 W C D r (fun j hj => h j (by simp [hj]))
    have e1 := av_get C i hi.1
    have e2 := av_get D i hi.2
    have hp : ∀ E : List Nat, i < E.length → (part 24 (av E) (i * 1)).run Tryz.prog W = .ok (.int .u16 ((E.getD i 0 : Nat) : Int)) W := by
      intro E hE
      have e := av_get E i hE
      obtain ⟨q, hq, _⟩ : ∃ q, Tryz.prog.info? 24 = some q ∧ q.size = 1 := by
        cases hq : Tryz.prog.info? 24 with
        | none => have := sizeU16; rw [hq] at this; cases this
        | some q => have := sizeU16; rw [hq] at this; exact ⟨q, rfl, by simpa using this⟩
      rename_i hs
      simp [part, run_underlying tyU16, isAgg, sizeOf, typeInfo, e, Result.andThen]
    have heq : (Op.equalIn 9998 24 (.int .u16 ((C.getD i 0 : Nat) : Int)) (.int .u16 ((D.getD i 0 : Nat) : Int))).run Tryz.prog W = .ok (((C.getD i 0 : Nat) : Int) == ((D.getD i 0 : Nat) : Int)) W :=
      run_equalIn_int W 9997 24 .u16 .u16 _ _ tyU16
    have hb : (((C.getD i 0 : Nat) : Int) == ((D.getD i 0 : Nat) : Int)) = (C.getD i 0 == D.getD i 0) := by
      apply Bool.eq_iff_iff.2
      simp only [beq_iff_eq]
      omega
    simp only [Op.eqItems, Sem.run_bind, hp C hi.1, hp D hi.2, Result.andThen_ok, heq, hb, List.all_cons]
    cases hc : (C.getD i 0 == D.getD i 0) with
    | true => simpa using ih
    | false => simp
theorem list8e : ∀ (g : List Nat), g.length = 8 → ∃ a b c d e f i j, g = [a, b, c, d, e, f, i, j]
  | [a, b, c, d, e, f, i, j], _ => ⟨a, b, c, d, e, f, i, j, rfl⟩
theorem eqIn8 (C D : List Nat) (hC : C.length = 8) (hD : D.length = 8) (W : World) : (Op.equalIn 9999 25 (.agg (av C)) (.agg (av D))).run Tryz.prog W = .ok (decide (C = D)) W := by
  obtain ⟨q, hq⟩ : ∃ q, Tryz.prog.info? 24 = some q := by
    cases hq : Tryz.prog.info? 24 with
    | none => have := sizeU16; rw [hq] at this; cases this
    | some q => exact ⟨q, rfl⟩
  have h1 := run_equalIn_array (P := Tryz.prog) (w := W) 9998 (av C) (av D) tyA8 hq
  rw [cellsU16, eqItems8 W C D (List.range 8) (fun i hi => by have := List.mem_range.1 hi; omega)] at h1
  have hall : ((List.range 8).all fun i => C.getD i 0 == D.getD i 0) = decide (C = D) := by
    apply Bool.eq_iff_iff.2
    rw [List.all_eq_true, decide_eq_true_iff]
    constructor
    · intro h
      apply List.ext_getElem (by omega)
      intro i h1 h2
      have := h i (List.mem_range.2 (by omega))
      simpa [List.getD_eq_getElem?_getD, List.getElem?_eq_getElem h1, List.getElem?_eq_getElem h2] using this
    · intro h i _
      rw [h]; simp
  rw [hall] at h1
  exact h1
set_option maxRecDepth 20000 in
theorem eq_host (k k' : Int) (n n' : ByteArray) (v v' : Int) (g g' : List Nat) (hg : g.length = 8) (hg' : g'.length = 8) (W : World) :
    (binOp .eql 27 (.agg (hc k n v g)) (.agg (hc k' n' v' g'))).run Tryz.prog W = .ok (.bool (decide (k = k' ∧ n.toList = n'.toList ∧ v = v' ∧ g = g'))) W := by
  have h8 := eqIn8 g g' hg hg' W
  obtain ⟨a0, a1, a2, a3, a4, a5, a6, a7, rfl⟩ := list8e g hg
  obtain ⟨b0, b1, b2, b3, b4, b5, b6, b7, rfl⟩ := list8e g' hg'
  · skip
    obtain ⟨q, hq⟩ : ∃ q, q = decide ([a0, a1, a2, a3, a4, a5, a6, a7] = [b0, b1, b2, b3, b4, b5, b6, b7]) := ⟨_, rfl⟩
    rw [← hq] at h8
    have e1 : av [a0, a1, a2, a3, a4, a5, a6, a7] = #[.int .u16 (a0 : Int), .int .u16 (a1 : Int), .int .u16 (a2 : Int), .int .u16 (a3 : Int), .int .u16 (a4 : Int), .int .u16 (a5 : Int), .int .u16 (a6 : Int), .int .u16 (a7 : Int)] := rfl
    have e2 : av [b0, b1, b2, b3, b4, b5, b6, b7] = #[.int .u16 (b0 : Int), .int .u16 (b1 : Int), .int .u16 (b2 : Int), .int .u16 (b3 : Int), .int .u16 (b4 : Int), .int .u16 (b5 : Int), .int .u16 (b6 : Int), .int .u16 (b7 : Int)] := rfl
    rw [e1, e2] at h8
    have e3 : decide (k = k' ∧ n.toList = n'.toList ∧ v = v' ∧ [a0, a1, a2, a3, a4, a5, a6, a7] = [b0, b1, b2, b3, b4, b5, b6, b7]) = (decide (k = k') && (decide (n.toList = n'.toList) && (decide (v = v') && q))) := by
      rw [hq, Bool.eq_iff_iff]
      simp only [decide_eq_true_eq, Bool.and_eq_true]
    rw [e3]
    have e4 : ∀ (x0 x1 x2 x3 x4 x5 x6 x7 : Nat), hc k n v [x0, x1, x2, x3, x4, x5, x6, x7] = #[.int .i64 k, .string n, .int .u32 v, .int .u16 (x0 : Int), .int .u16 (x1 : Int), .int .u16 (x2 : Int), .int .u16 (x3 : Int), .int .u16 (x4 : Int), .int .u16 (x5 : Int), .int .u16 (x6 : Int), .int .u16 (x7 : Int)] := fun _ _ _ _ _ _ _ _ => rfl
    have e5 : hc k' n' v' [b0, b1, b2, b3, b4, b5, b6, b7] = #[.int .i64 k', .string n', .int .u32 v', .int .u16 (b0 : Int), .int .u16 (b1 : Int), .int .u16 (b2 : Int), .int .u16 (b3 : Int), .int .u16 (b4 : Int), .int .u16 (b5 : Int), .int .u16 (b6 : Int), .int .u16 (b7 : Int)] := rfl
    rw [e4, e5]
    clear e1 e2 e3 e4 e5 hq
    by_cases h1 : k = k' <;> by_cases h2 : n.toList = n'.toList <;> by_cases h3 : v = v' <;> cases q <;> simp [go_sem, h1, h2, h3, h8]
end

end Go.Proofs.YtpccpgihldpiiaaGreatDoor
