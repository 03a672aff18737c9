/-
The reference's decode of layer 14.
Contract of Digits of the reference of layer 1.
Contracts of digit, number, parts and decimal of the reference of layer 10.
-/
import Derived.Test.YtdfacgncphmcoaaGreatDoorB27
import Derived.Test.YtdfacgncphmcoaaGreatDoorB06
import Derived.Test.YtdfacgncphmcoaaGreatDoorB01
import Derived.Test.YtdfacgncphmcoaaGreatDoorB18
import Derived.Test.YtdfacgncphmcoaaGreatDoorB02
import Derived.BigQuiet
namespace Go.Proofs.YtdfacgncphmcoaaGreatDoor
section
open Go.RowKit
theorem wpAny_tail {P : Program} {md : Region.Mode} {ops : Array Oper} {Q' : Exit → Act → World → Prop} {listed : Array Bool} {a : Act} {w : World} {n : Nat} (k : Nat) (hn : k + n = ops.size) (hB : Region.seqB md ops n k listed = true)
    (h : wpList P ops Q' (ops.toList.drop k) a w) : wpAny P md ops Q' n listed a w := by
  have hl : (ops.toList.drop k).length = n := by simp; omega
  have := wpAny_of_seq (ops.toList.drop k) k listed a w (fun j => by simp) (by rw [hl]; exact hB) h
  rwa [hl] at this
set_option maxRecDepth 20000 in
set_option maxHeartbeats 4000000 in
theorem refDecode_any14 (s : ByteArray) (hs : s.size ≤ 100000000) (w : World) : Calls Tryz.prog 90 #[.string s] w fun e w' =>
    e = .returned (.tuple #[.string (bs ((pctL (ls s)).getD [])), .bool (pctL (ls s)).isSome]) ∧ Below w.heap.size w w' := by
  obtain ⟨i5, hi5, hz0, hz1, hz2⟩ := info_parts infoU8
  have hP0 : PctAt (pctL (ls s)) [] (ls s) := by
    unfold PctAt
    cases pctL (ls s) <;> rfl
  generalize pctL (ls s) = V at *
  have HP0 := Lib.hid hP0
  clear hP0
  go_enter Tryz.func90, Tryz.ntmps90
  go_wp2
  go_loopg [4, 5] (s.size + 1) (fun g tv iv wr => ∃ (k : Nat) (acc : List UInt8), k ≤ s.size ∧ g = s.size + 1 - k ∧ iv = .int .i64 k ∧ acc.length ≤ k ∧ Hid (PctAt V acc ((ls s).drop k)) ∧ wr.ownsRow w.heap.size 5 1 tv acc.length (acc.map bv) ∧ Below w.heap.size w wr)
  case atStart => exact ⟨0, [], Nat.zero_le _, by omega, rfl, Nat.le_refl _, Lib.hid (by rw [List.drop_zero]; exact HP0.out), World.ownsRow_nil _ _ _ _, Below.refl _ _⟩
  case round =>
    obtain ⟨k, acc, hk, hg, rfl, hal, HP, hown, hb⟩ := hrel
    have HG := Lib.hid hg
    clear hg
    by_cases hlt : k < s.size
    · have hdrop := drop_ls_cons s k hlt
      have hHP := HP.out
      rw [hdrop] at hHP
      by_cases h37 : s[k] = 37
      · have hq' : ((s[k].toNat : Int) == 37) = true := by rw [h37]; rfl
        have hq : (!((s[k].toNat : Int) == 37)) = false := by rw [hq']; rfl
        rw [h37] at hHP
        by_cases h3 : k + 3 ≤ s.size
        · have d3 : decide ((s.size : Int) - (k : Int) < 3) = false := decide_eq_false (by omega)
          have e2 : (ls s).drop (k + 1) = s[k + 1] :: s[k + 2] :: (ls s).drop (k + 3) := by
            rw [drop_ls_cons s (k + 1) (by omega), drop_ls_cons s (k + 2) (by omega)]
          have c1 := fun W => refHex14_any s[k + 1] W
          have c2 := fun W => refHex14_any s[k + 2] W
          rw [e2] at hHP
          have he := esc_cons2 s[k + 1] s[k + 2] ((ls s).drop (k + 3))
          have hk1 : k + 1 < s.size := by omega
          have hk2 : k + 2 < s.size := by omega
          by_cases hd1 : digV s[k + 1] < 16
          · by_cases hd2 : digV s[k + 2] < 16
            · rw [if_pos ⟨hd1, hd2⟩] at he
              have HN := Lib.hid (pctAt_some hHP he)
              rw [hexI_pos hd1] at c1
              rw [hexI_pos hd2] at c2
              obtain ⟨v1, hv1⟩ : ∃ v, v = digV s[k + 1] := ⟨_, rfl⟩
              obtain ⟨v2, hv2⟩ : ∃ v, v = digV s[k + 2] := ⟨_, rfl⟩
              rw [← hv1] at hd1
              rw [← hv2] at hd2
              simp only [← hv1] at c1
              simp only [← hv2] at c2
              rw [← hv1, ← hv2] at HN
              have d4 : decide ((v1 : Int) < 0) = false := decide_eq_false (by omega)
              have d5 : decide ((v2 : Int) < 0) = false := decide_eq_false (by omega)
              have HB8 : Hid (bv (UInt8.ofNat (16 * v1 + v2)) = .int .u8 (16 * (v1 : Int) + (v2 : Int))) := by
                show _ = _
                rw [bv_eq]
                simp
                omega
              clear hv1 hv2 he e2 hHP hdrop h37 HP
              go_wp2_with (go_at_call 118; (first | (with_reducible refine (c1 _).mono ?_) | (with_reducible refine (c2 _).mono ?_)); rintro e w2 ⟨rfl, rfl⟩)
              have hw1 : IntKind.i64.wrap ((k : Int) + 1) = (k : Int) + 1 := by rw [IntKind.wrap_i64]; omega
              have hw2 : IntKind.i64.wrap ((k : Int) + 2) = (k : Int) + 2 := by rw [IntKind.wrap_i64]; omega
              have hw3 : IntKind.i64.wrap (16 * (v1 : Int)) = 16 * (v1 : Int) := by rw [IntKind.wrap_i64]; omega
              have hw4 : IntKind.i64.wrap (16 * (v1 : Int) + (v2 : Int)) = 16 * (v1 : Int) + (v2 : Int) := by rw [IntKind.wrap_i64]; omega
              have hw5 : IntKind.u8.wrap (16 * (v1 : Int) + (v2 : Int)) = 16 * (v1 : Int) + (v2 : Int) := by unfold IntKind.wrap; simp [IntKind.bits, IntKind.signed]; omega
              refine wp_region_any (by kernel_rfl) ?_
              refine wpAny_take (i := 0) (v := u4) rfl (by kernel_rfl) (by kernel_rfl) (by kernel_rfl) (fun _ _ _ h => h) (Or.inl ⟨by rfl, by intro w; go_simp; try with_reducible rfl⟩) ?_
              refine wpAny_take (i := 1) (v := .string s) rfl (by kernel_rfl) (by kernel_rfl) (by kernel_rfl) (fun _ _ _ h => h) (Or.inl ⟨by rfl, by intro w; go_simp; try with_reducible rfl⟩) ?_
              refine wpAny_take (i := 2) (v := .int .i64 (k : Int)) rfl (by kernel_rfl) (by kernel_rfl) (by kernel_rfl) (fun _ _ _ h => h) (Or.inl ⟨by rfl, by intro w; go_simp; try with_reducible rfl⟩) ?_
              refine wpAny_take (i := 3) (v := .int .i64 ((k : Int) + 1)) rfl (by kernel_rfl) (by kernel_rfl) (by kernel_rfl) (fun _ _ _ h => h) (Or.inl ⟨by rfl, by intro w; go_simp; try with_reducible rfl⟩) ?_
              refine wpAny_take (i := 4) (v := .int .u8 (s[k + 1].toNat : Int)) rfl (by kernel_rfl) (by kernel_rfl) (by kernel_rfl) (fun _ _ _ h => h) (Or.inl ⟨by rfl, by intro w; go_simp; try with_reducible rfl⟩) ?_
              refine wpAny_take (i := 7) (v := .string s) rfl (by kernel_rfl) (by kernel_rfl) (by kernel_rfl) (fun _ _ _ h => h) (Or.inl ⟨by rfl, by intro w; go_simp; try with_reducible rfl⟩) ?_
              refine wpAny_take (i := 8) (v := .int .i64 (k : Int)) rfl (by kernel_rfl) (by kernel_rfl) (by kernel_rfl) (fun _ _ _ h => h) (Or.inl ⟨by rfl, by intro w; go_simp; try with_reducible rfl⟩) ?_
              refine wpAny_take (i := 9) (v := .int .i64 ((k : Int) + 2)) rfl (by kernel_rfl) (by kernel_rfl) (by kernel_rfl) (fun _ _ _ h => h) (Or.inl ⟨by rfl, by intro w; go_simp; try with_reducible rfl⟩) ?_
              refine wpAny_take (i := 10) (v := .int .u8 (s[k + 2].toNat : Int)) rfl (by kernel_rfl) (by kernel_rfl) (by kernel_rfl) (fun _ _ _ h => h) (Or.inl ⟨by rfl, by intro w; go_simp; rfl⟩) ?_
              refine wpAny_ready (rs := [5]) (by kernel_rfl) (by simp) ?_
              refine AllReady.cons rfl (fun K hK => ?_) AllReady.nil
              go_simp
              go_wp2_with fail
              refine (c1 _).mono ?_
              rintro e w9 ⟨rfl, rfl⟩
              refine hK _ _ ?_
              clear hK K
              refine wpAny_take (i := 6) (v := .int .i64 (16 * (v1 : Int))) rfl (by kernel_rfl) (by kernel_rfl) (by kernel_rfl) (fun _ _ _ h => h) (Or.inl ⟨by rfl, by intro w; go_simp; try with_reducible rfl⟩) ?_
              refine wpAny_ready (rs := [11]) (by kernel_rfl) (by simp) ?_
              refine AllReady.cons rfl (fun K hK => ?_) AllReady.nil
              go_simp
              go_wp2_with fail
              refine (c2 _).mono ?_
              rintro e w9 ⟨rfl, rfl⟩
              refine hK _ _ ?_
              clear hK K
              refine wpAny_take (i := 12) (v := .int .i64 (16 * (v1 : Int) + (v2 : Int))) rfl (by kernel_rfl) (by kernel_rfl) (by kernel_rfl) (fun _ _ _ h => h) (Or.inl ⟨by rfl, by intro w; go_simp; try with_reducible rfl⟩) ?_
              refine wpAny_take (i := 13) (v := .int .u8 (16 * (v1 : Int) + (v2 : Int))) rfl (by kernel_rfl) (by kernel_rfl) (by kernel_rfl) (fun _ _ _ h => h) (Or.inl ⟨by rfl, by intro w; go_simp; try with_reducible rfl⟩) ?_
              refine wpAny_tail 14 rfl (by kernel_rfl) ?_
              simp only [List.drop_succ_cons, List.drop_zero]
              clear hw1 hw2 hw3 hw4 hw5
              change wpList _ _ _ _ _ (World.drew _)
              have hown2 : (World.drew wr).ownsRow w.heap.size 5 1 u4 acc.length (acc.map bv) := hown
              have hbd := hb.drew
              generalize World.drew wr = w9 at *
              have hl9 : acc.length ≤ 100000000 := by omega
              go_wp2_with (at_builtin; refine wpList_app_one _ rfl _ _ 40 rfl w.heap.size 5 i5 (.int .u8 0) 1 tyBs hi5 hz0 hz1 hz2 rfl _ (by exact rfl) _ _ _ (by exact rfl) hown2 (by exact rfl) (by unfold maxLen; omega) (by omega) hbd (Nat.le_refl _) ?_; intro v' w1' hown' hb' _)
              go_roundg (s.size + 1 - (k + 3))
              case rel =>
                refine ⟨k + 3, acc ++ [UInt8.ofNat (16 * v1 + v2)], h3, rfl, by go_num, by rw [List.length_append, List.length_singleton]; omega, HN, ?_, hb'⟩
                have e9 : (acc ++ [UInt8.ofNat (16 * v1 + v2)]).map bv = acc.map bv ++ [.int .u8 (16 * (v1 : Int) + (v2 : Int))] := by rw [List.map_append, ← HB8.out]; rfl
                rw [e9, List.length_append, List.length_singleton]
                exact hown'
              case measure => rw [HG.out]; omega
            · rw [if_neg (fun h => hd2 h.2)] at he
              have HV := Lib.hid (pctAt_none hHP he)
              rw [hexI_pos hd1] at c1
              rw [hexI_neg hd2] at c2
              obtain ⟨v1, hv1⟩ : ∃ v, v = digV s[k + 1] := ⟨_, rfl⟩
              simp only [← hv1] at c1
              have d4 : decide ((v1 : Int) < 0) = false := decide_eq_false (by omega)
              clear hv1 he e2 hHP hdrop h37 HP hd1 hd2
              go_wp2_with (go_at_call 118; (first | (with_reducible refine (c1 _).mono ?_) | (with_reducible refine (c2 _).mono ?_)); rintro e w2 ⟨rfl, rfl⟩)
              go_ret2
              rw [HV.out]
              exact ⟨rfl, hb⟩
          · rw [if_neg (fun h => hd1 h.1)] at he
            have HV := Lib.hid (pctAt_none hHP he)
            rw [hexI_neg hd1] at c1
            clear c2 he e2 hHP hdrop h37 HP hd1
            go_wp2_with (go_at_call 118; refine (c1 _).mono ?_; rintro e w2 ⟨rfl, rfl⟩)
            go_ret2
            rw [HV.out]
            exact ⟨rfl, hb⟩
        · have d3 : decide ((s.size : Int) - (k : Int) < 3) = true := decide_eq_true (by omega)
          have HV := Lib.hid (pctAt_none hHP (esc_short (by rw [List.length_drop, ls_length]; omega)))
          clear hHP hdrop h37 HP
          go_wp2
          go_ret2
          rw [HV.out]
          exact ⟨rfl, hb⟩
      · have hq' : ((s[k].toNat : Int) == 37) = false := byte_ne h37
        have hq : (!((s[k].toNat : Int) == 37)) = true := by rw [hq']; rfl
        have HN := Lib.hid (pctAt_byte hHP h37)
        have hl9 : acc.length ≤ 100000000 := by omega
        clear hHP hdrop h37 HP
        go_wp2_with (at_builtin; refine wpList_app_one _ rfl _ _ 40 rfl w.heap.size 5 i5 (.int .u8 0) 1 tyBs hi5 hz0 hz1 hz2 rfl _ (by exact rfl) _ _ _ (by exact rfl) hown (by exact rfl) (by unfold maxLen; omega) (by omega) hb (Nat.le_refl _) ?_; intro v' w1' hown' hb' _)
        go_roundg (s.size + 1 - (k + 1))
        case rel =>
          refine ⟨k + 1, acc ++ [s[k]], by omega, rfl, by go_num, by rw [List.length_append, List.length_singleton]; omega, HN, ?_, hb'⟩
          have e9 : (acc ++ [s[k]]).map bv = acc.map bv ++ [.int .u8 (s[k].toNat : Int)] := by rw [List.map_append]; rfl
          rw [e9, List.length_append, List.length_singleton]
          exact hown'
        case measure => rw [HG.out]; omega
    · obtain rfl : k = s.size := by omega
      have hHP := HP.out
      rw [drop_ls_all] at hHP
      have HV := Lib.hid (pctAt_end hHP)
      have hconv := str_owned wr w.heap.size acc.length u4 acc hown
      clear hHP
      go_wp2
      go_ret2
      rw [HV.out]
      exact ⟨rfl, hb⟩
end

section
open Go.RowKit
set_option maxHeartbeats 1000000 in
theorem refDigits_any (s : ByteArray) (w : World) (hs : s.size ≤ 1000000000) :
    Calls Tryz.prog 120 #[.string s] w fun e w' => e = .returned (.bool (digitsB s)) ∧ w = w' := by
  go_enter Tryz.func120, Tryz.ntmps120
  go_wp2
  go_loop [3] (fun i => ∃ k : Nat, k ≤ s.size ∧ i = .int .i64 k ∧ ((ls s).take k).all digitU = true) (fun i => s.size - (intOf i).toNat)
  case atStart => exact ⟨0, Nat.zero_le _, rfl, rfl⟩
  case round =>
    obtain ⟨k, hk, rfl, hall⟩ := hrel
    have HA := Lib.hid hall
    clear hall
    by_cases hlt : k < s.size
    · by_cases h1 : (s[k].toNat : Int) < 48
      · have HF := Lib.hid (digits_no s k hlt (by simp [digitU, digitB]; omega))
        go_wp2
        go_ret
        exact ⟨ret_bool HF.out.symm, rfl⟩
      · by_cases h2 : 57 < (s[k].toNat : Int)
        · have HF := Lib.hid (digits_no s k hlt (by simp [digitU, digitB]; omega))
          go_wp2
          go_ret
          exact ⟨ret_bool HF.out.symm, rfl⟩
        · have HD : Hid (digitU s[k] = true) := by show _ = _; simp [digitU, digitB]; omega
          go_wp2
          go_round
          case rel => exact ⟨k + 1, by omega, by go_num, take_all_succ digitU s k hlt HA.out HD.out⟩
          case measure => simp [intOf]; omega
    · obtain rfl : k = s.size := by omega
      have HF := Lib.hid (digits_yes s HA.out)
      go_wp2
      go_ret
      exact ⟨ret_bool (by rw [HF.out, toList_ls]), rfl⟩
end

section
open Go.RowKit
set_option maxHeartbeats 1000000 in
theorem refDigit_any (c : UInt8) (w : World) :
    Calls Tryz.prog 155 #[.int .u8 (c.toNat : Int)] w fun e w' => e = .returned (.int .i64 (digV c : Nat)) ∧ w = w' := by
  have hl := byte_lt c
  obtain ⟨y, hy⟩ : ∃ y : Int, y = (c.toNat : Int) := ⟨_, rfl⟩
  have hy0 : 0 ≤ y := by omega
  rw [← hy] at hl ⊢
  have HY := Lib.hid hy
  clear hy
  by_cases h1 : (48 : Int) ≤ y ∧ y ≤ 57
  · obtain ⟨h1, h2⟩ := h1
    have HV : Hid (y - 48 = (digV c : Nat)) := by show _ = _; have := HY.out; unfold digV; rw [if_pos (by omega)]; omega
    go_enter Tryz.func155, Tryz.ntmps155
    go_wp2
    go_ret
    exact ⟨ret_int HV.out, rfl⟩
  · by_cases h2 : (97 : Int) ≤ y ∧ y ≤ 102
    · obtain ⟨h2, h3⟩ := h2
      have h4 : ¬ y ≤ 57 := by omega
      have h5 : (48 : Int) ≤ y := by omega
      have HV : Hid (y - 97 + 10 = (digV c : Nat)) := by show _ = _; have := HY.out; unfold digV; rw [if_neg (by omega), if_pos (by omega)]; omega
      clear h1
      go_enter Tryz.func155, Tryz.ntmps155
      go_wp2
      go_ret
      exact ⟨ret_int HV.out, rfl⟩
    · by_cases h3 : (65 : Int) ≤ y ∧ y ≤ 70
      · obtain ⟨h3, h4⟩ := h3
        have h5 : ¬ y ≤ 57 := by omega
        have h6 : (48 : Int) ≤ y := by omega
        have h7 : ¬ (97 : Int) ≤ y := by omega
        have HV : Hid (y - 65 + 10 = (digV c : Nat)) := by show _ = _; have := HY.out; unfold digV; rw [if_neg (by omega), if_neg (by omega), if_pos (by omega)]; omega
        clear h1 h2
        go_enter Tryz.func155, Tryz.ntmps155
        go_wp2
        go_ret
        exact ⟨ret_int HV.out, rfl⟩
      · have HV : Hid ((99 : Int) = (digV c : Nat)) := by show _ = _; have := HY.out; unfold digV; rw [if_neg (by omega), if_neg (by omega), if_neg (by omega)]; rfl
        by_cases g1 : (48 : Int) ≤ y
        · have g2 : ¬ y ≤ 57 := fun h => h1 ⟨g1, h⟩
          by_cases g3 : (65 : Int) ≤ y
          · have g4 : ¬ y ≤ 70 := fun h => h3 ⟨g3, h⟩
            by_cases g5 : (97 : Int) ≤ y
            · have g6 : ¬ y ≤ 102 := fun h => h2 ⟨g5, h⟩
              clear h1 h2 h3
              go_enter Tryz.func155, Tryz.ntmps155
              go_wp2
              go_ret
              exact ⟨ret_int HV.out, rfl⟩
            · clear h1 h2 h3
              go_enter Tryz.func155, Tryz.ntmps155
              go_wp2
              go_ret
              exact ⟨ret_int HV.out, rfl⟩
          · have g5 : ¬ (97 : Int) ≤ y := by omega
            clear h1 h2 h3
            go_enter Tryz.func155, Tryz.ntmps155
            go_wp2
            go_ret
            exact ⟨ret_int HV.out, rfl⟩
        · have g3 : ¬ (65 : Int) ≤ y := by omega
          have g5 : ¬ (97 : Int) ≤ y := by omega
          clear h1 h2 h3
          go_enter Tryz.func155, Tryz.ntmps155
          go_wp2
          go_ret
          exact ⟨ret_int HV.out, rfl⟩
set_option maxHeartbeats 1000000 in
theorem refParts_any (s : ByteArray) (w : World) (hs : s.size ≤ 1000000000) :
    Calls Tryz.prog 119 #[.string s] w (StrsPost (partsL (ls s)) w) := by
  have hspl := refSplit_any s 46 w hs
  have hpos := splitL_pos 46 (ls s)
  have hlen := splitL_length 46 (ls s)
  rw [ls_length] at hlen
  have HP : Hid (partsL (ls s) = if 1 < (splitL 46 (ls s)).length ∧ (splitL 46 (ls s)).getLast? = some [] then (splitL 46 (ls s)).dropLast else splitL 46 (ls s)) := Lib.hid rfl
  have HLAST := Lib.hid (last_nil hpos)
  generalize splitL 46 (ls s) = P at *
  obtain ⟨n, hn⟩ : ∃ n, n = P.length := ⟨_, rfl⟩
  go_enter Tryz.func119, Tryz.ntmps119
  go_wp2_with fail
  refine hspl.mono ?_
  rintro e w1 ⟨v, m, rfl, hown, hb⟩
  obtain ⟨A, c, rfl, hh, hmc⟩ := Has.of_own hown
  obtain rfl : m = n := by have := hh.1; rw [wv_length] at this; omega
  clear hspl hown
  obtain ⟨b, off, rfl, hcell⟩ := str_cell hh (m - 1) (by omega)
  by_cases h1 : 1 < m
  · have hd : decide ((1 : Int) < (m : Int)) = true := decide_eq_true (by omega)
    have hm1 : (m : Int) - 1 = ((m - 1 : Nat) : Int) := by omega
    obtain ⟨k, hk⟩ : ∃ k, k = m - 1 := ⟨_, rfl⟩
    rw [← hk] at hcell hm1
    have hkm : k < m := by omega
    have hkb : k ≤ 1000000001 := by omega
    have hmb : m ≤ 1000000001 := by omega
    have hkc : k ≤ c := by omega
    have hbe := bs_nil_iff (P.getD k [])
    obtain ⟨X, hX⟩ : ∃ X, X = bs (P.getD k []) := ⟨_, rfl⟩
    rw [← hX] at hbe hcell
    clear hX
    by_cases h2 : P.getD k [] = []
    · have hlast : P.getLast? = some [] := by
        rw [HLAST.out, ← hn, ← hk]
        rw [List.getD_eq_getElem?_getD, List.getElem?_eq_getElem (by omega), Option.getD_some] at h2 ⊢
        exact h2
      have HQ : Hid (partsL (ls s) = P.take k) := by
        show _ = _
        rw [HP.out, if_pos ⟨by omega, hlast⟩, List.dropLast_eq_take, ← hn, hk]
      rw [decide_eq_true h2] at hbe
      have HN := Lib.hid hn
      have hh2 := hh.take k (by omega)
      have HK := Lib.hid hk
      clear hn hk h2 hlast
      go_wp2
      go_ret
      have hl : (P.take k).length = k := by have := HN.out; have := HK.out; simp; omega
      refine ⟨some ⟨b, off, none⟩, c, ?_, ?_, ?_, hb⟩
      · rw [HQ.out, hl]; rfl
      · rw [HQ.out, hl]; exact hkc
      · rw [HQ.out, hl]
        have e : wv (P.take k) = (wv P).take k := by simp [wv, List.map_take]
        rw [e]; exact hh2
    · have hlast : ¬ P.getLast? = some [] := by
        rw [HLAST.out, ← hn, ← hk]
        rw [List.getD_eq_getElem?_getD, List.getElem?_eq_getElem (by omega), Option.getD_some] at h2 ⊢
        exact h2
      have HQ : Hid (partsL (ls s) = P) := by
        show _ = _
        rw [HP.out, if_neg (fun h => hlast h.2)]
      rw [decide_eq_false h2] at hbe
      have HN := Lib.hid hn
      clear hn hk h2 hlast
      go_wp2
      go_ret
      refine ⟨some ⟨b, off, none⟩, c, ?_, ?_, ?_, hb⟩
      · rw [HQ.out, ← HN.out]; rfl
      · rw [HQ.out, ← HN.out]; exact hmc
      · rw [HQ.out, ← HN.out]; exact hh
  · have hd : decide ((1 : Int) < (m : Int)) = false := decide_eq_false (by omega)
    have HQ : Hid (partsL (ls s) = P) := by
      show _ = _
      rw [HP.out, if_neg (fun h => h1 (by omega))]
    have HN := Lib.hid hn
    clear hn
    go_wp2
    go_ret
    refine ⟨some ⟨b, off, none⟩, c, ?_, ?_, ?_, hb⟩
    · rw [HQ.out, ← HN.out]; rfl
    · rw [HQ.out, ← HN.out]; exact hmc
    · rw [HQ.out, ← HN.out]; exact hh
end

end Go.Proofs.YtdfacgncphmcoaaGreatDoor
