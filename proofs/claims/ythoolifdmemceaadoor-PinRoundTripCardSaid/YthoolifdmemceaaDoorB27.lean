/-
The walk of PinCompareMatchesSpec: it returns true.
Contract of Digits of the reference of layer 1.
Contracts of digit, number, parts and decimal of the reference of layer 10.
-/
import Derived.Test.YthoolifdmemceaaDoorB26
import Derived.Test.YthoolifdmemceaaDoorB02
import Derived.Test.YthoolifdmemceaaDoorB00
import Derived.Test.YthoolifdmemceaaDoorB12
import Derived.Test.YthoolifdmemceaaDoorB07
import Derived.BigQuiet
namespace Go.Proofs.YthoolifdmemceaaDoor
section
open Go.RowKit Go.Shelf

theorem pn_three (w : World) (u v x : Value) (t : TypeId) : Has (w.alloc (.cells #[u, v, x] t)) (w.heap.size + 1) (some ⟨w.heap.size, 0, none⟩) 3 [u, v, x] :=
  ⟨rfl, fun _ => ⟨w.heap.size, 0, rfl, by omega, fun j hj => by
    rw [World.cell?_alloc_at _ _ _ _ rfl, Nat.zero_add]
    match j, hj with
    | 0, _ => rfl
    | 1, _ => rfl
    | 2, _ => rfl⟩⟩
theorem three_no {n : Int} {a b c : ByteArray} (hs : ¬ ((a.size : Int) ≤ n ∧ (b.size : Int) ≤ n ∧ (c.size : Int) ≤ n)) : shortB n [a, b, c] = false := by
  unfold shortB
  rw [List.all_eq_false]
  by_cases h1 : (a.size : Int) ≤ n
  · by_cases h2 : (b.size : Int) ≤ n
    · exact ⟨c, by simp, by simp; omega⟩
    · exact ⟨b, by simp, by simp; omega⟩
  · exact ⟨a, by simp, by simp; omega⟩

set_option maxRecDepth 20000 in
set_option maxHeartbeats 4000000 in
theorem walkPnCmp (hV : PnVal 10) (hE : PnEnc 8) (hD : PnDec 7) (hC : PnCmp 13) (hR : PnCmp 14) (a b c : ByteArray) (w : World) (_ : a.size ≤ maxLen) (_ : b.size ≤ maxLen) (_ : c.size ≤ maxLen) :
    Calls Tryd.prog 4 #[.string a, .string b, .string c] w (Yes w) := by
  have c9 := fun W => awake22_any hV hE hD hC W
  have hhas := pn_three w (.string a) (.string b) (.string c) 9
  have hb0 := (Below.refl w.heap.size w).alloc (Nat.le_refl _) (.cells #[.string a, .string b, .string c] 9)
  have cs := short_any 400 (some ⟨w.heap.size, 0, none⟩) 3 3 [a, b, c] (w.heap.size + 1) (w.alloc (.cells #[.string a, .string b, .string c] 9)) hhas (by omega)
  by_cases hs : (a.size : Int) ≤ 400 ∧ (b.size : Int) ≤ 400 ∧ (c.size : Int) ≤ 400
  · have e : shortB 400 [a, b, c] = true := by simp [shortB]; omega
    rw [e] at cs
    have cab := fun W => hC a b W (by omega) (by omega)
    have cba := fun W => hC b a W (by omega) (by omega)
    have cbc := fun W => hC b c W (by omega) (by omega)
    have cac := fun W => hC a c W (by omega) (by omega)
    have rab := fun W => hR a b W (by omega) (by omega)
    have hv1 := tot_cmpN.vals (ls a) (ls b)
    have hv2 := tot_cmpN.vals (ls b) (ls c)
    have hsw := tot_cmpN.swap (ls a) (ls b)
    have htr := tot_cmpN.trans (ls a) (ls b) (ls c)
    have heq : (a.toList == b.toList) = decide (cmpN (ls a) (ls b) = 0) := by
      rw [toList_ls, toList_ls, Bool.eq_iff_iff, beq_iff_eq, decide_eq_true_iff]
      exact (cmpN_eq _ _).symm
    rw [hsw] at cba
    generalize cmpN (ls a) (ls b) = x at *
    generalize cmpN (ls b) (ls c) = y at *
    generalize cmpN (ls a) (ls c) = z at *
    clear hsw e hs hhas
    go_enter Tryd.func4, Tryd.ntmps4
    go_wp2_with fail
    refine cs.mono ?_
    rintro r w1 ⟨rfl, h1⟩
    rw [h1] at hb0
    clear h1 cs
    go_wp2_with fail
    refine (cab _).mono ?_
    rintro r w2 ⟨rfl, hb2⟩
    replace hb0 := hb0.trans (hb2.mono hb0.size)
    go_wp2_with fail
    refine (cbc _).mono ?_
    rintro r w3 ⟨rfl, hb3⟩
    replace hb0 := hb0.trans (hb3.mono hb0.size)
    go_wp2_with fail
    refine (rab _).mono ?_
    rintro r w4 ⟨rfl, hb4⟩
    replace hb0 := hb0.trans (hb4.mono hb0.size)
    clear hb2 hb3 hb4 cab cbc rab
    go_wp2_with fail
    refine (cba _).mono ?_
    rintro r w5 ⟨rfl, hb5⟩
    replace hb0 := hb0.trans (hb5.mono hb0.size)
    clear hb5 cba
    rcases hv1 with rfl | rfl | rfl
    · have heq : (a.toList == b.toList) = false := heq
      rcases hv2 with rfl | rfl | rfl
      · have dz : z ≤ 0 := htr (by decide) (by decide)
        go_wp2_with fail
        refine (cac _).mono ?_
        rintro r w7 ⟨rfl, hb7⟩
        replace hb0 := hb0.trans (hb7.mono hb0.size)
        go_wp2_with fail
        refine (c9 _).mono ?_
        rintro r w6 ⟨rfl, hb6⟩
        go_wp2
        go_ret
        exact ⟨rfl, hb0.trans (hb6.mono hb0.size)⟩
      · have dz : z ≤ 0 := htr (by decide) (by decide)
        go_wp2_with fail
        refine (cac _).mono ?_
        rintro r w7 ⟨rfl, hb7⟩
        replace hb0 := hb0.trans (hb7.mono hb0.size)
        go_wp2_with fail
        refine (c9 _).mono ?_
        rintro r w6 ⟨rfl, hb6⟩
        go_wp2
        go_ret
        exact ⟨rfl, hb0.trans (hb6.mono hb0.size)⟩
      · go_wp2_with fail
        refine (c9 _).mono ?_
        rintro r w6 ⟨rfl, hb6⟩
        go_wp2
        go_ret
        exact ⟨rfl, hb0.trans (hb6.mono hb0.size)⟩
    · have heq : (a.toList == b.toList) = true := heq
      rcases hv2 with rfl | rfl | rfl
      · have dz : z ≤ 0 := htr (by decide) (by decide)
        go_wp2_with fail
        refine (cac _).mono ?_
        rintro r w7 ⟨rfl, hb7⟩
        replace hb0 := hb0.trans (hb7.mono hb0.size)
        go_wp2_with fail
        refine (c9 _).mono ?_
        rintro r w6 ⟨rfl, hb6⟩
        go_wp2
        go_ret
        exact ⟨rfl, hb0.trans (hb6.mono hb0.size)⟩
      · have dz : z ≤ 0 := htr (by decide) (by decide)
        go_wp2_with fail
        refine (cac _).mono ?_
        rintro r w7 ⟨rfl, hb7⟩
        replace hb0 := hb0.trans (hb7.mono hb0.size)
        go_wp2_with fail
        refine (c9 _).mono ?_
        rintro r w6 ⟨rfl, hb6⟩
        go_wp2
        go_ret
        exact ⟨rfl, hb0.trans (hb6.mono hb0.size)⟩
      · go_wp2_with fail
        refine (c9 _).mono ?_
        rintro r w6 ⟨rfl, hb6⟩
        go_wp2
        go_ret
        exact ⟨rfl, hb0.trans (hb6.mono hb0.size)⟩
    · have heq : (a.toList == b.toList) = false := heq
      go_wp2_with fail
      refine (c9 _).mono ?_
      rintro r w6 ⟨rfl, hb6⟩
      go_wp2
      go_ret
      exact ⟨rfl, hb0.trans (hb6.mono hb0.size)⟩
  · have e := three_no hs
    rw [e] at cs
    have c9' := c9 (w.alloc (.cells #[.string a, .string b, .string c] 9))
    clear hs c9 hhas
    generalize hw1 : w.alloc (.cells #[.string a, .string b, .string c] 9) = w1 at *
    have HE := Lib.hid hw1
    go_enter Tryd.func4, Tryd.ntmps4
    go_wp2_with fail
    refine cs.mono ?_
    rintro r w' ⟨rfl, rfl⟩
    go_wp2_with fail
    refine c9'.mono ?_
    rintro r w2 ⟨rfl, hb2⟩
    go_wp2
    go_ret
    exact ⟨rfl, hb0.trans (hb2.mono hb0.size)⟩
end

section
open Go.RowKit

set_option maxHeartbeats 1000000 in
theorem refDigits_any (s : ByteArray) (w : World) (hs : s.size ≤ 1000000000) :
    Calls Tryd.prog 35 #[.string s] w fun e w' => e = .returned (.bool (digitsB s)) ∧ w = w' := by
  go_enter Tryd.func35, Tryd.ntmps35
  go_wp2
  go_loop [3] (fun i => ∃ k : Nat, k ≤ s.size ∧ i = .int .i64 k ∧ ((ls s).take k).all digitU = true) (fun i => s.size - (intOf i).toNat)
  case atStart => exact ⟨0, Nat.zero_le _, rfl, rfl⟩
  case round =>
    obtain ⟨k, hk, rfl, hall⟩ := hrel
    have HA := Lib.hid hall
    clear hall
    by_cases hlt : k < s.size
    · by_cases h1 : (s[k].toNat : Int) < 48
      · have HF := Lib.hid (digits_no s k hlt (by simp [digitU, digitB]; omega))
        go_wp2
        go_ret
        exact ⟨ret_bool HF.out.symm, rfl⟩
      · by_cases h2 : 57 < (s[k].toNat : Int)
        · have HF := Lib.hid (digits_no s k hlt (by simp [digitU, digitB]; omega))
          go_wp2
          go_ret
          exact ⟨ret_bool HF.out.symm, rfl⟩
        · have HD : Hid (digitU s[k] = true) := by show _ = _; simp [digitU, digitB]; omega
          go_wp2
          go_round
          case rel => exact ⟨k + 1, by omega, by go_num, take_all_succ digitU s k hlt HA.out HD.out⟩
          case measure => simp [intOf]; omega
    · obtain rfl : k = s.size := by omega
      have HF := Lib.hid (digits_yes s HA.out)
      go_wp2
      go_ret
      exact ⟨ret_bool (by rw [HF.out, toList_ls]), rfl⟩
end

section
open Go.RowKit

set_option maxHeartbeats 1000000 in
theorem refDigit_any (c : UInt8) (w : World) :
    Calls Tryd.prog 42 #[.int .u8 (c.toNat : Int)] w fun e w' => e = .returned (.int .i64 (digV c : Nat)) ∧ w = w' := by
  have hl := byte_lt c
  obtain ⟨y, hy⟩ : ∃ y : Int, y = (c.toNat : Int) := ⟨_, rfl⟩
  have hy0 : 0 ≤ y := by omega
  rw [← hy] at hl ⊢
  have HY := Lib.hid hy
  clear hy
  by_cases h1 : (48 : Int) ≤ y ∧ y ≤ 57
  · obtain ⟨h1, h2⟩ := h1
    have HV : Hid (y - 48 = (digV c : Nat)) := by show _ = _; have := HY.out; unfold digV; rw [if_pos (by omega)]; omega
    go_enter Tryd.func42, Tryd.ntmps42
    go_wp2
    go_ret
    exact ⟨ret_int HV.out, rfl⟩
  · by_cases h2 : (97 : Int) ≤ y ∧ y ≤ 102
    · obtain ⟨h2, h3⟩ := h2
      have h4 : ¬ y ≤ 57 := by omega
      have h5 : (48 : Int) ≤ y := by omega
      have HV : Hid (y - 97 + 10 = (digV c : Nat)) := by show _ = _; have := HY.out; unfold digV; rw [if_neg (by omega), if_pos (by omega)]; omega
      clear h1
      go_enter Tryd.func42, Tryd.ntmps42
      go_wp2
      go_ret
      exact ⟨ret_int HV.out, rfl⟩
    · by_cases h3 : (65 : Int) ≤ y ∧ y ≤ 70
      · obtain ⟨h3, h4⟩ := h3
        have h5 : ¬ y ≤ 57 := by omega
        have h6 : (48 : Int) ≤ y := by omega
        have h7 : ¬ (97 : Int) ≤ y := by omega
        have HV : Hid (y - 65 + 10 = (digV c : Nat)) := by show _ = _; have := HY.out; unfold digV; rw [if_neg (by omega), if_neg (by omega), if_pos (by omega)]; omega
        clear h1 h2
        go_enter Tryd.func42, Tryd.ntmps42
        go_wp2
        go_ret
        exact ⟨ret_int HV.out, rfl⟩
      · have HV : Hid ((99 : Int) = (digV c : Nat)) := by show _ = _; have := HY.out; unfold digV; rw [if_neg (by omega), if_neg (by omega), if_neg (by omega)]; rfl
        by_cases g1 : (48 : Int) ≤ y
        · have g2 : ¬ y ≤ 57 := fun h => h1 ⟨g1, h⟩
          by_cases g3 : (65 : Int) ≤ y
          · have g4 : ¬ y ≤ 70 := fun h => h3 ⟨g3, h⟩
            by_cases g5 : (97 : Int) ≤ y
            · have g6 : ¬ y ≤ 102 := fun h => h2 ⟨g5, h⟩
              clear h1 h2 h3
              go_enter Tryd.func42, Tryd.ntmps42
              go_wp2
              go_ret
              exact ⟨ret_int HV.out, rfl⟩
            · clear h1 h2 h3
              go_enter Tryd.func42, Tryd.ntmps42
              go_wp2
              go_ret
              exact ⟨ret_int HV.out, rfl⟩
          · have g5 : ¬ (97 : Int) ≤ y := by omega
            clear h1 h2 h3
            go_enter Tryd.func42, Tryd.ntmps42
            go_wp2
            go_ret
            exact ⟨ret_int HV.out, rfl⟩
        · have g3 : ¬ (65 : Int) ≤ y := by omega
          have g5 : ¬ (97 : Int) ≤ y := by omega
          clear h1 h2 h3
          go_enter Tryd.func42, Tryd.ntmps42
          go_wp2
          go_ret
          exact ⟨ret_int HV.out, rfl⟩

set_option maxHeartbeats 1000000 in
theorem refParts_any (s : ByteArray) (w : World) (hs : s.size ≤ 1000000000) :
    Calls Tryd.prog 34 #[.string s] w (StrsPost (partsL (ls s)) w) := by
  have hspl := refSplit_any s 46 w hs
  have hpos := splitL_pos 46 (ls s)
  have hlen := splitL_length 46 (ls s)
  rw [ls_length] at hlen
  have HP : Hid (partsL (ls s) = if 1 < (splitL 46 (ls s)).length ∧ (splitL 46 (ls s)).getLast? = some [] then (splitL 46 (ls s)).dropLast else splitL 46 (ls s)) := Lib.hid rfl
  have HLAST := Lib.hid (last_nil hpos)
  generalize splitL 46 (ls s) = P at *
  obtain ⟨n, hn⟩ : ∃ n, n = P.length := ⟨_, rfl⟩
  go_enter Tryd.func34, Tryd.ntmps34
  go_wp2_with fail
  refine hspl.mono ?_
  rintro e w1 ⟨v, m, rfl, hown, hb⟩
  obtain ⟨A, c, rfl, hh, hmc⟩ := Has.of_own hown
  obtain rfl : m = n := by have := hh.1; rw [wv_length] at this; omega
  clear hspl hown
  obtain ⟨b, off, rfl, hcell⟩ := str_cell hh (m - 1) (by omega)
  by_cases h1 : 1 < m
  · have hd : decide ((1 : Int) < (m : Int)) = true := decide_eq_true (by omega)
    have hm1 : (m : Int) - 1 = ((m - 1 : Nat) : Int) := by omega
    obtain ⟨k, hk⟩ : ∃ k, k = m - 1 := ⟨_, rfl⟩
    rw [← hk] at hcell hm1
    have hkm : k < m := by omega
    have hkb : k ≤ 1000000001 := by omega
    have hmb : m ≤ 1000000001 := by omega
    have hkc : k ≤ c := by omega
    have hbe := bs_nil_iff (P.getD k [])
    obtain ⟨X, hX⟩ : ∃ X, X = bs (P.getD k []) := ⟨_, rfl⟩
    rw [← hX] at hbe hcell
    clear hX
    by_cases h2 : P.getD k [] = []
    · have hlast : P.getLast? = some [] := by
        rw [HLAST.out, ← hn, ← hk]
        rw [List.getD_eq_getElem?_getD, List.getElem?_eq_getElem (by omega), Option.getD_some] at h2 ⊢
        exact h2
      have HQ : Hid (partsL (ls s) = P.take k) := by
        show _ = _
        rw [HP.out, if_pos ⟨by omega, hlast⟩, List.dropLast_eq_take, ← hn, hk]
      rw [decide_eq_true h2] at hbe
      have HN := Lib.hid hn
      have hh2 := hh.take k (by omega)
      have HK := Lib.hid hk
      clear hn hk h2 hlast
      go_wp2
      go_ret
      have hl : (P.take k).length = k := by have := HN.out; have := HK.out; simp; omega
      refine ⟨some ⟨b, off, none⟩, c, ?_, ?_, ?_, hb⟩
      · rw [HQ.out, hl]; rfl
      · rw [HQ.out, hl]; exact hkc
      · rw [HQ.out, hl]
        have e : wv (P.take k) = (wv P).take k := by simp [wv, List.map_take]
        rw [e]; exact hh2
    · have hlast : ¬ P.getLast? = some [] := by
        rw [HLAST.out, ← hn, ← hk]
        rw [List.getD_eq_getElem?_getD, List.getElem?_eq_getElem (by omega), Option.getD_some] at h2 ⊢
        exact h2
      have HQ : Hid (partsL (ls s) = P) := by
        show _ = _
        rw [HP.out, if_neg (fun h => hlast h.2)]
      rw [decide_eq_false h2] at hbe
      have HN := Lib.hid hn
      clear hn hk h2 hlast
      go_wp2
      go_ret
      refine ⟨some ⟨b, off, none⟩, c, ?_, ?_, ?_, hb⟩
      · rw [HQ.out, ← HN.out]; rfl
      · rw [HQ.out, ← HN.out]; exact hmc
      · rw [HQ.out, ← HN.out]; exact hh
  · have hd : decide ((1 : Int) < (m : Int)) = false := decide_eq_false (by omega)
    have HQ : Hid (partsL (ls s) = P) := by
      show _ = _
      rw [HP.out, if_neg (fun h => h1 (by omega))]
    have HN := Lib.hid hn
    clear hn
    go_wp2
    go_ret
    refine ⟨some ⟨b, off, none⟩, c, ?_, ?_, ?_, hb⟩
    · rw [HQ.out, ← HN.out]; rfl
    · rw [HQ.out, ← HN.out]; exact hmc
    · rw [HQ.out, ← HN.out]; exact hh
end

end Go.Proofs.YthoolifdmemceaaDoor
