/-
  Contracts of digit, number, parts and decimal of the reference of layer 10.
-/
import Derived.Test.YtmgmepikgccmcaaDoorRfD
import Derived.Test.YtmgmepikgccmcaaDoorRfF
import Derived.Test.YtmgmepikgccmcaaDoorRfS
import Derived.Test.YtmgmepikgccmcaaDoorStC
import Derived.Test.YtmgmepikgccmcaaDoorMin2
import Derived.Test.YtmgmepikgccmcaaDoorIpP
import Derived.BigQuiet
namespace Go.Proofs.YtmgmepikgccmcaaDoor
open Go.RowKit

set_option maxHeartbeats 1000000 in
theorem refDigit_any (c : UInt8) (w : World) :
    Calls Tryd.prog 33 #[.int .u8 (c.toNat : Int)] w fun e w' => e = .returned (.int .i64 (digV c : Nat)) ∧ w = w' := by
  have hl := byte_lt c
  obtain ⟨y, hy⟩ : ∃ y : Int, y = (c.toNat : Int) := ⟨_, rfl⟩
  have hy0 : 0 ≤ y := by omega
  rw [← hy] at hl ⊢
  have HY := Lib.hid hy
  clear hy
  by_cases h1 : (48 : Int) ≤ y ∧ y ≤ 57
  · obtain ⟨h1, h2⟩ := h1
    have HV : Hid (y - 48 = (digV c : Nat)) := by show _ = _; have := HY.out; unfold digV; rw [if_pos (by omega)]; omega
    go_enter Tryd.func33, Tryd.ntmps33
    go_wp2
    go_ret
    exact ⟨ret_int HV.out, rfl⟩
  · by_cases h2 : (97 : Int) ≤ y ∧ y ≤ 102
    · obtain ⟨h2, h3⟩ := h2
      have h4 : ¬ y ≤ 57 := by omega
      have h5 : (48 : Int) ≤ y := by omega
      have HV : Hid (y - 97 + 10 = (digV c : Nat)) := by show _ = _; have := HY.out; unfold digV; rw [if_neg (by omega), if_pos (by omega)]; omega
      clear h1
      go_enter Tryd.func33, Tryd.ntmps33
      go_wp2
      go_ret
      exact ⟨ret_int HV.out, rfl⟩
    · by_cases h3 : (65 : Int) ≤ y ∧ y ≤ 70
      · obtain ⟨h3, h4⟩ := h3
        have h5 : ¬ y ≤ 57 := by omega
        have h6 : (48 : Int) ≤ y := by omega
        have h7 : ¬ (97 : Int) ≤ y := by omega
        have HV : Hid (y - 65 + 10 = (digV c : Nat)) := by show _ = _; have := HY.out; unfold digV; rw [if_neg (by omega), if_neg (by omega), if_pos (by omega)]; omega
        clear h1 h2
        go_enter Tryd.func33, Tryd.ntmps33
        go_wp2
        go_ret
        exact ⟨ret_int HV.out, rfl⟩
      · have HV : Hid ((99 : Int) = (digV c : Nat)) := by show _ = _; have := HY.out; unfold digV; rw [if_neg (by omega), if_neg (by omega), if_neg (by omega)]; rfl
        by_cases g1 : (48 : Int) ≤ y
        · have g2 : ¬ y ≤ 57 := fun h => h1 ⟨g1, h⟩
          by_cases g3 : (65 : Int) ≤ y
          · have g4 : ¬ y ≤ 70 := fun h => h3 ⟨g3, h⟩
            by_cases g5 : (97 : Int) ≤ y
            · have g6 : ¬ y ≤ 102 := fun h => h2 ⟨g5, h⟩
              clear h1 h2 h3
              go_enter Tryd.func33, Tryd.ntmps33
              go_wp2
              go_ret
              exact ⟨ret_int HV.out, rfl⟩
            · clear h1 h2 h3
              go_enter Tryd.func33, Tryd.ntmps33
              go_wp2
              go_ret
              exact ⟨ret_int HV.out, rfl⟩
          · have g5 : ¬ (97 : Int) ≤ y := by omega
            clear h1 h2 h3
            go_enter Tryd.func33, Tryd.ntmps33
            go_wp2
            go_ret
            exact ⟨ret_int HV.out, rfl⟩
        · have g3 : ¬ (65 : Int) ≤ y := by omega
          have g5 : ¬ (97 : Int) ≤ y := by omega
          clear h1 h2 h3
          go_enter Tryd.func33, Tryd.ntmps33
          go_wp2
          go_ret
          exact ⟨ret_int HV.out, rfl⟩

set_option maxHeartbeats 1000000 in
theorem refParts_any (s : ByteArray) (w : World) (hs : s.size ≤ 1000000000) :
    Calls Tryd.prog 24 #[.string s] w (StrsPost (partsL (ls s)) w) := by
  have hspl := refSplit_any s 46 w hs
  have hpos := splitL_pos 46 (ls s)
  have hlen := splitL_length 46 (ls s)
  rw [ls_length] at hlen
  have HP : Hid (partsL (ls s) = if 1 < (splitL 46 (ls s)).length ∧ (splitL 46 (ls s)).getLast? = some [] then (splitL 46 (ls s)).dropLast else splitL 46 (ls s)) := Lib.hid rfl
  have HLAST := Lib.hid (last_nil hpos)
  generalize splitL 46 (ls s) = P at *
  obtain ⟨n, hn⟩ : ∃ n, n = P.length := ⟨_, rfl⟩
  go_enter Tryd.func24, Tryd.ntmps24
  go_wp2_with fail
  refine hspl.mono ?_
  rintro e w1 ⟨v, m, rfl, hown, hb⟩
  obtain ⟨A, c, rfl, hh, hmc⟩ := Has.of_own hown
  obtain rfl : m = n := by have := hh.1; rw [wv_length] at this; omega
  clear hspl hown
  obtain ⟨b, off, rfl, hcell⟩ := str_cell hh (m - 1) (by omega)
  by_cases h1 : 1 < m
  · have hd : decide ((1 : Int) < (m : Int)) = true := decide_eq_true (by omega)
    have hm1 : (m : Int) - 1 = ((m - 1 : Nat) : Int) := by omega
    obtain ⟨k, hk⟩ : ∃ k, k = m - 1 := ⟨_, rfl⟩
    rw [← hk] at hcell hm1
    have hkm : k < m := by omega
    have hkb : k ≤ 1000000001 := by omega
    have hmb : m ≤ 1000000001 := by omega
    have hkc : k ≤ c := by omega
    have hbe := bs_nil_iff (P.getD k [])
    obtain ⟨X, hX⟩ : ∃ X, X = bs (P.getD k []) := ⟨_, rfl⟩
    rw [← hX] at hbe hcell
    clear hX
    by_cases h2 : P.getD k [] = []
    · have hlast : P.getLast? = some [] := by
        rw [HLAST.out, ← hn, ← hk]
        rw [List.getD_eq_getElem?_getD, List.getElem?_eq_getElem (by omega), Option.getD_some] at h2 ⊢
        exact h2
      have HQ : Hid (partsL (ls s) = P.take k) := by
        show _ = _
        rw [HP.out, if_pos ⟨by omega, hlast⟩, List.dropLast_eq_take, ← hn, hk]
      rw [decide_eq_true h2] at hbe
      have HN := Lib.hid hn
      have hh2 := hh.take k (by omega)
      have HK := Lib.hid hk
      clear hn hk h2 hlast
      go_wp2
      go_ret
      have hl : (P.take k).length = k := by have := HN.out; have := HK.out; simp; omega
      refine ⟨some ⟨b, off, none⟩, c, ?_, ?_, ?_, hb⟩
      · rw [HQ.out, hl]; rfl
      · rw [HQ.out, hl]; exact hkc
      · rw [HQ.out, hl]
        have e : wv (P.take k) = (wv P).take k := by simp [wv, List.map_take]
        rw [e]; exact hh2
    · have hlast : ¬ P.getLast? = some [] := by
        rw [HLAST.out, ← hn, ← hk]
        rw [List.getD_eq_getElem?_getD, List.getElem?_eq_getElem (by omega), Option.getD_some] at h2 ⊢
        exact h2
      have HQ : Hid (partsL (ls s) = P) := by
        show _ = _
        rw [HP.out, if_neg (fun h => hlast h.2)]
      rw [decide_eq_false h2] at hbe
      have HN := Lib.hid hn
      clear hn hk h2 hlast
      go_wp2
      go_ret
      refine ⟨some ⟨b, off, none⟩, c, ?_, ?_, ?_, hb⟩
      · rw [HQ.out, ← HN.out]; rfl
      · rw [HQ.out, ← HN.out]; exact hmc
      · rw [HQ.out, ← HN.out]; exact hh
  · have hd : decide ((1 : Int) < (m : Int)) = false := decide_eq_false (by omega)
    have HQ : Hid (partsL (ls s) = P) := by
      show _ = _
      rw [HP.out, if_neg (fun h => h1 (by omega))]
    have HN := Lib.hid hn
    clear hn
    go_wp2
    go_ret
    refine ⟨some ⟨b, off, none⟩, c, ?_, ?_, ?_, hb⟩
    · rw [HQ.out, ← HN.out]; rfl
    · rw [HQ.out, ← HN.out]; exact hmc
    · rw [HQ.out, ← HN.out]; exact hh

end Go.Proofs.YtmgmepikgccmcaaDoor
