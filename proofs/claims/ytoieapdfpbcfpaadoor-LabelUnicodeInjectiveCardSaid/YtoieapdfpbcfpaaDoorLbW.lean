/-
  Contracts of the reference of layer 13: Valid, ToUnicode, ToASCII.
-/
import Derived.Test.YtoieapdfpbcfpaaDoorLbR
import Derived.Test.YtoieapdfpbcfpaaDoorLbC
import Derived.Test.YtoieapdfpbcfpaaDoorPts
import Derived.Test.YtoieapdfpbcfpaaDoorTxt
import Derived.Test.YtoieapdfpbcfpaaDoorRfL
namespace Go.Proofs.YtoieapdfpbcfpaaDoor
open Go.RowKit

set_option maxRecDepth 20000 in
set_option maxHeartbeats 2000000 in
theorem refLab_any (s : ByteArray) (w : World) (hs : s.size ≤ 1000000000) :
    Calls Tryd.prog 13 #[.string s] w fun e w' => e = .returned (.bool (labL (ls s))) ∧ Below w.heap.size w w' := by
  by_cases h0 : s.size = 0
  · have hlab := Lib.hid (lab_zero h0)
    have he : s.toList.isEmpty = true := by rw [toList_ls]; exact List.isEmpty_iff.2 (List.eq_nil_of_length_eq_zero (by rw [ls_length]; exact h0))
    go_enter Tryd.func13, Tryd.ntmps13
    go_wp2
    go_ret
    exact ⟨ret_bool hlab.out.symm, Below.refl _ _⟩
  · have he : s.toList.isEmpty = false := by rw [toList_ls]; exact ne_empty h0
    by_cases h1 : 63 < s.size
    · have hlab := Lib.hid (lab_long h1)
      have hd : decide ((63 : Int) < (s.size : Int)) = true := decide_eq_true (by omega)
      go_enter Tryd.func13, Tryd.ntmps13
      go_wp2
      go_ret
      exact ⟨ret_bool hlab.out.symm, Below.refl _ _⟩
    · have hd : decide ((63 : Int) < (s.size : Int)) = false := decide_eq_false (by omega)
      have hz0 : (0 : Int) < (s.size : Int) := by omega
      have hf0 : 0 < s.size := by omega
      obtain ⟨y0, hy0⟩ : ∃ y0 : Nat, y0 = (s[0]'hf0).toNat := ⟨_, rfl⟩
      obtain ⟨y1, hy1⟩ : ∃ y1 : Nat, y1 = (s[s.size - 1]'(by omega)).toNat := ⟨_, rfl⟩
      have hends := Lib.hid (lab_ends hf0 hy0 hy1)
      by_cases h2 : y0 = 45
      · have hlab := Lib.hid (hends.out.1 (.inl h2))
        have e0 : (((s[0]'hf0).toNat : Int) == 45) = true := by rw [← hy0, h2]; rfl
        clear hy0 hy1
        go_enter Tryd.func13, Tryd.ntmps13
        go_wp2
        go_ret
        exact ⟨ret_bool hlab.out.symm, Below.refl _ _⟩
      · have e0 : (((s[0]'hf0).toNat : Int) == 45) = false := by rw [← hy0]; simp; omega
        have hsub : (s.size : Int) - 1 = ((s.size - 1 : Nat) : Int) := by omega
        by_cases h3 : y1 = 45
        · have hlab := Lib.hid (hends.out.1 (.inr h3))
          have e1 : (((s[s.size - 1]'(by omega)).toNat : Int) == 45) = true := by rw [← hy1, h3]; rfl
          clear hy0 hy1
          go_enter Tryd.func13, Tryd.ntmps13
          go_wp2
          go_ret
          exact ⟨ret_bool hlab.out.symm, Below.refl _ _⟩
        · have hlab := Lib.hid (hends.out.2 ⟨h2, h3, by omega⟩)
          have e1 : (((s[s.size - 1]'(by omega)).toNat : Int) == 45) = false := by rw [← hy1]; simp; omega
          clear hy0 hy1 hends
          rw [hlab.out]
          have HS : Hid (s.size ≤ 63) := by show _ ≤ _; omega
          obtain ⟨R, hR⟩ : ∃ R, R = restLab (ls s) := ⟨_, rfl⟩
          have HR := Lib.hid hR
          rw [← hR]
          clear hR hlab
          go_enter Tryd.func13, Tryd.ntmps13
          go_wp2
          clear e0 e1 h2 h3 hsub he
          go_loop [3] (fun i => ∃ k : Nat, k ≤ s.size ∧ i = .int .i64 k ∧ Hid (okK (ls s) k = true)) (fun i => s.size - (intOf i).toNat)
          case atStart => exact ⟨0, Nat.zero_le _, rfl, rfl⟩
          case round =>
            obtain ⟨k, hk, rfl, HK⟩ := hrel
            have hs63 : s.size ≤ 63 := HS.out
            by_cases hlt : k < s.size
            · have hkl : k < (ls s).length := by rw [ls_length]; exact hlt
              have HG := Lib.hid (okK_succ (ls s) k hkl)
              have HB : Hid (okN (ls s)[k].toNat = false → R = false) := fun hb => by rw [HR.out]; exact rest_bad k hkl hb
              rw [ls_getE s k hlt hkl] at HG HB
              have hkd : decide ((k : Int) < (s.size : Int)) = true := decide_eq_true (by omega)
              have hyl := byte_lt s[k]
              go_wp2
              all_goals
                first
                | (go_ret
                   have hno : okN s[k].toNat = false := by
                     rw [okN_no]
                     first
                     | omega
                     | (have h := ‹(_ ∧ _) ∧ _›; simp at h; first | done | omega)
                     | (have h := ‹_ ∧ _›; simp at h; first | done | omega)
                   exact ⟨ret_bool (HB.out hno).symm, Below.refl _ _⟩)
                | (have hyes : okN s[k].toNat = true := by
                     rw [okN_yes]
                     first
                     | omega
                     | (have h := ‹(_ ∨ _) ∨ _›; simp at h; first | done | omega)
                     | (have h := ‹_ ∨ _›; simp at h; first | done | omega)
                   have HK2 : Hid (okK (ls s) (k + 1) = true) := by show _ = _; rw [HG.out, HK.out, hyes]; rfl
                   clear hyes
                   go_round
                   case rel => exact ⟨k + 1, by omega, by go_num, HK2⟩
                   case measure => simp [intOf]; omega)
            · obtain rfl : k = s.size := by omega
              have hkd : decide ((s.size : Int) < (s.size : Int)) = false := by simp
              have HR2 : Hid (R = (decide ((ls s).take 4 ≠ xnL) || propL ((ls s).drop 4))) := by
                show _ = _
                rw [HR.out]
                exact rest_all (by rw [ls_length]; exact HK.out)
              by_cases h4 : s.size < 4
              · have hd4 : decide ((s.size : Int) < 4) = true := decide_eq_true (by omega)
                have HR3 : Hid (R = true) := by show _ = _; rw [HR2.out, xn_short (by rw [ls_length]; exact h4)]; rfl
                go_wp2
                go_ret
                exact ⟨ret_bool HR3.out.symm, Below.refl _ _⟩
              · have hd4 : decide ((s.size : Int) < 4) = false := decide_eq_false (by omega)
                have h4z : (4 : Int) ≤ (s.size : Int) := by omega
                have hx : (s.extract 0 4).toList = (ls s).take 4 := by rw [toList_ls, ls_extract, List.drop_zero]
                by_cases hxn : (ls s).take 4 = xnL
                · have q1 : ((s.extract 0 4).toList != [120, 110, 45, 45]) = false := by rw [hx, hxn]; rfl
                  have q2 : ((s.extract 0 4).toList == [120, 110, 45, 45]) = true := by rw [hx, hxn]; rfl
                  have c1 := refProper_any (s.extract 4 s.size) w
                  have hr : Hid (R = propL (ls (s.extract 4 s.size))) := by
                    show _ = _
                    rw [HR2.out, decide_eq_false (by simp [hxn]), Bool.false_or, ls_extract, List.take_of_length_le (by rw [List.length_drop, ls_length]; exact Nat.le_refl _)]
                  rw [← hr.out] at c1
                  clear hx hxn
                  go_wp2_with (go_at_call 30; refine c1.mono ?_; rintro e w' ⟨rfl, hb'⟩)
                  go_ret
                  exact ⟨rfl, hb'⟩
                · have q1 : ((s.extract 0 4).toList != [120, 110, 45, 45]) = true := by rw [hx, bne_iff_ne]; exact hxn
                  have q2 : ((s.extract 0 4).toList == [120, 110, 45, 45]) = false := by rw [hx]; exact beq_false_of_ne hxn
                  have HR3 : Hid (R = true) := by show _ = _; rw [HR2.out, decide_eq_true hxn]; rfl
                  clear hx hxn
                  go_wp2
                  go_ret
                  exact ⟨ret_bool HR3.out.symm, Below.refl _ _⟩


theorem xn_size {s : ByteArray} (h : (ls s).take 4 = xnL) : 4 ≤ s.size := by
  have := congrArg List.length h
  rw [List.length_take, ls_length] at this
  unfold xnL at this
  simp at this
  omega
theorem ls_from (s : ByteArray) (k : Nat) : ls (s.extract k s.size) = (ls s).drop k := by
  rw [ls_extract, List.take_of_length_le (by rw [List.length_drop, ls_length]; exact Nat.le_refl _)]
theorem toU_no {l : List UInt8} (h : labL l = false) : toU l = (14, []) := by unfold toU; rw [if_neg (by rw [h]; simp)]
theorem toU_xn {l : List UInt8} {p : List Nat} (h : labL l = true) (hx : l.take 4 = xnL) (hd : decL (l.drop 4) = .ok p) : toU l = (0, txtL p) := by
  unfold toU toUOut toUOut.decV'
  rw [if_pos h, if_pos hx, hd]
theorem toU_self {l : List UInt8} (h : labL l = true) (hx : ¬ l.take 4 = xnL) : toU l = (0, l) := by
  unfold toU toUOut
  rw [if_pos h, if_neg hx]
theorem toA_none {l : List UInt8} (h : ptsL l = none) : toA l = (4, []) := by unfold toA; rw [h]
theorem toA_many {l : List UInt8} {P : List Nat} (h : ptsL l = some P) (hl : 256 < P.length) : toA l = (3, []) := by
  unfold toA
  rw [h]
  exact if_pos hl
theorem toA_some {l : List UInt8} {P : List Nat} (h : ptsL l = some P) (hl : ¬ 256 < P.length) : toA l = if labL (toAOut l P) = true then (0, toAOut l P) else (14, []) := by
  unfold toA
  rw [h]
  exact if_neg hl

set_option maxRecDepth 20000 in
set_option maxHeartbeats 2000000 in
theorem refToU_any (s : ByteArray) (w : World) (hs : s.size ≤ 1000000000) :
    Calls Tryd.prog 11 #[.string s] w fun e w' => e = .returned (.tuple #[.string (bs (toU (ls s)).2), .int .i64 ((toU (ls s)).1 : Nat)]) ∧ Below w.heap.size w w' := by
  have c1 := refLab_any s w hs
  cases hl : labL (ls s) with
  | false =>
    rw [toU_no hl]
    rw [hl] at c1
    clear hl
    go_enter Tryd.func11, Tryd.ntmps11
    go_wp2_with (go_at_call 13; refine c1.mono ?_; rintro e w1 ⟨rfl, hb⟩)
    go_ret2
    exact ⟨rfl, hb⟩
  | true =>
    by_cases hx : (ls s).take 4 = xnL
    · obtain ⟨p, hd, hP, hpl, _, _, _⟩ := prop_of (lab_prop hl hx)
      rw [toU_xn hl hx hd]
      have h4 := xn_size hx
      have c2 := fun W => refDec_any (s.extract 4 s.size) W
      obtain ⟨d1, d2⟩ := dec_ok hd
      unfold DecPost at c2
      rw [ls_from, d1, d2] at c2
      have c3 := fun A cap B W hA hB => refTxt_any p (fun x hx => ptN_le (hP x hx)) A p.length cap B W hA hB (by omega)
      obtain ⟨X, hX⟩ : ∃ X, X = bs (txtL p) := ⟨_, rfl⟩
      rw [← hX] at c3
      rw [show bs ((0 : Nat), txtL p).2 = X from hX.symm]
      have hd4 : decide ((s.size : Int) < 4) = false := decide_eq_false (by omega)
      have h4z : (4 : Int) ≤ (s.size : Int) := by omega
      have hxe : (s.extract 0 4).toList = (ls s).take 4 := by rw [toList_ls, ls_extract, List.drop_zero]
      have q1 : ((s.extract 0 4).toList != [120, 110, 45, 45]) = false := by rw [hxe, hx]; rfl
      have q2 : ((s.extract 0 4).toList == [120, 110, 45, 45]) = true := by rw [hxe, hx]; rfl
      rw [hl] at c1
      clear hl hx hd d1 d2 hxe hX hP hs
      go_enter Tryd.func11, Tryd.ntmps11
      go_wp2_with (first | (go_at_call 13; refine c1.mono ?_; rintro e w1 ⟨rfl, hb⟩))
      go_wp2_with fail
      refine (c2 _).mono ?_
      rintro e w2 ⟨⟨v, rfl, hown⟩, hb2⟩
      obtain ⟨A1, k1, rfl, hh, _⟩ := Has.of_own hown
      replace hb2 := hb.trans (hb2.mono hb.size)
      go_wp2_with fail
      refine (c3 A1 k1 _ w2 hh (Nat.le_refl _)).mono ?_
      rintro e w3 ⟨rfl, hb3⟩
      go_wp2
      go_ret2
      exact ⟨rfl, hb2.trans (hb3.mono hb2.size)⟩
    · rw [toU_self hl hx, show bs ((0 : Nat), ls s).2 = s from bs_ls s]
      rw [hl] at c1
      by_cases h4 : s.size < 4
      · have hd4 : decide ((s.size : Int) < 4) = true := decide_eq_true (by omega)
        clear hl hx
        go_enter Tryd.func11, Tryd.ntmps11
        go_wp2_with (go_at_call 13; refine c1.mono ?_; rintro e w1 ⟨rfl, hb⟩)
        go_ret2
        exact ⟨rfl, hb⟩
      · have hd4 : decide ((s.size : Int) < 4) = false := decide_eq_false (by omega)
        have h4z : (4 : Int) ≤ (s.size : Int) := by omega
        have hxe : (s.extract 0 4).toList = (ls s).take 4 := by rw [toList_ls, ls_extract, List.drop_zero]
        have q1 : ((s.extract 0 4).toList != [120, 110, 45, 45]) = true := by rw [hxe, bne_iff_ne]; exact hx
        have q2 : ((s.extract 0 4).toList == [120, 110, 45, 45]) = false := by rw [hxe]; exact beq_false_of_ne hx
        clear hl hx hxe
        go_enter Tryd.func11, Tryd.ntmps11
        go_wp2_with (go_at_call 13; refine c1.mono ?_; rintro e w1 ⟨rfl, hb⟩)
        go_ret2
        exact ⟨rfl, hb⟩

set_option maxRecDepth 20000 in
set_option maxHeartbeats 2000000 in
theorem refToA_any (s : ByteArray) (w : World) (hs : s.size ≤ 1000000000) :
    Calls Tryd.prog 9 #[.string s] w fun e w' => e = .returned (.tuple #[.string (bs (toA (ls s)).2), .int .i64 ((toA (ls s)).1 : Nat)]) ∧ Below w.heap.size w w' := by
  have c1 := refPts_any s w hs
  unfold PtsPost at c1
  cases hp : ptsL (ls s) with
  | none =>
    rw [toA_none hp]
    rw [hp] at c1
    clear hp
    go_enter Tryd.func9, Tryd.ntmps9
    go_wp2_with fail
    refine c1.mono ?_
    rintro e w1 ⟨⟨v, rfl, _⟩, hb⟩
    go_wp2
    go_ret2
    exact ⟨rfl, hb⟩
  | some P =>
    obtain ⟨hpt, htx⟩ := txt_pts hp
    have hle := (txtL_len P).1
    rw [htx, ls_length] at hle
    rw [hp] at c1
    by_cases h256 : 256 < P.length
    · rw [toA_many hp h256]
      have hd : decide ((256 : Int) < (P.length : Int)) = true := decide_eq_true (by omega)
      clear hp hpt htx
      go_enter Tryd.func9, Tryd.ntmps9
      go_wp2_with fail
      refine c1.mono ?_
      rintro e w1 ⟨⟨v, rfl, hown⟩, hb⟩
      obtain ⟨A1, k1, rfl, hh, _⟩ := Has.of_own hown
      rw [show (some P).getD [] = P from rfl] at *
      rw [show (some P).isSome = true from rfl]
      go_wp2
      go_ret2
      exact ⟨rfl, hb⟩
    · rw [toA_some hp h256]
      have hd : decide ((256 : Int) < (P.length : Int)) = false := decide_eq_false (by omega)
      have cL := fun W => refLower_any s W hs
      by_cases hlt : P.length < s.size
      · have hlN : decide ((P.length : Int) < (s.size : Int)) = true := decide_eq_true (by omega)
        have hsz : (lowS s).size = s.size := by rw [← ls_length, show ls (lowS s) = lowL (ls s) from rfl, lowL_length, ls_length]
        have c2 := fun W => refPts_any (lowS s) W (by omega)
        unfold PtsPost at c2
        rw [show ls (lowS s) = lowL (ls s) from rfl, pts_low, hp, Option.map_some, show (some (P.map lowP)).getD [] = P.map lowP from rfl, show (some (P.map lowP)).isSome = true from rfl] at c2
        have hpt2 : ∀ x ∈ P.map lowP, ptN x = true := by
          intro x hx
          obtain ⟨y, hy, rfl⟩ := List.mem_map.1 hx
          exact lowP_pt (hpt y hy)
        have eO : toAOut (ls s) P = xnL ++ encB (P.map lowP) := by unfold toAOut; rw [if_pos (by rw [ls_length]; exact hlt)]
        obtain ⟨Q, hQ⟩ : ∃ Q, Q = P.map lowP := ⟨_, rfl⟩
        have hQl : Q.length = P.length := by rw [hQ, List.length_map]
        rw [← hQ] at c2 hpt2 eO
        have cE := fun A c B W hA hB => refEnc_any (Q.map (fun n : Nat => (n : Int))) A Q.length c B W hA hB
        rw [encL_of hpt2 (by omega)] at cE
        obtain ⟨X, hX⟩ : ∃ X, X = bs (encB Q) := ⟨_, rfl⟩
        rw [show ((0 : Nat), encB Q).2 = encB Q from rfl, show (((0 : Nat), encB Q).1 : Nat) = 0 from rfl, ← hX] at cE
        have hXl : X.size ≤ 4000 := by
          have := encB_len hpt2 (by omega)
          rw [hX, bs_size]
          omega
        have hY : ∀ Y : ByteArray, Y = (⟨#[120, 110, 45, 45]⟩ : ByteArray) ++ X → Y.size ≤ 1000000000 ∧ ls Y = toAOut (ls s) P := by
          intro Y hY
          refine ⟨?_, ?_⟩
          · rw [hY, ByteArray.size_append, show (⟨#[120, 110, 45, 45]⟩ : ByteArray).size = 4 from rfl]; omega
          · rw [hY, ls_append, hX, eO]; rfl
        obtain ⟨hYs, eY⟩ := hY _ rfl
        have c4 := fun W => refLab_any _ W hYs
        rw [eY] at c4
        have HB : Hid (bs (toAOut (ls s) P) = (⟨#[120, 110, 45, 45]⟩ : ByteArray) ++ X) := by show _ = _; rw [← eY, bs_ls]
        obtain ⟨O, hO⟩ : ∃ O, O = toAOut (ls s) P := ⟨_, rfl⟩
        rw [← hO] at c4 HB ⊢
        rw [show (some P).getD [] = P from rfl, show (some P).isSome = true from rfl] at c1
        obtain ⟨q, hq⟩ : ∃ q, q = labL O := ⟨_, rfl⟩
        rw [← hq] at c4 ⊢
        clear hp hpt htx hX hY eY hO hq eO hQ hQl hpt2 hsz hs hYs hle
        have hfin : (if q = true then ((0 : Nat), O) else (14, [])) = (if q = true then 0 else 14, if q = true then O else []) := by cases q <;> rfl
        rw [hfin]
        have HF : Hid (bs (if q = true then O else []) = if q = true then (⟨#[120, 110, 45, 45]⟩ : ByteArray) ++ X else ByteArray.mk #[]) := by
          show _ = _
          cases q
          · rfl
          · exact HB.out
        rw [HF.out]
        clear HF HB hfin
        go_enter Tryd.func9, Tryd.ntmps9
        go_wp2_with fail
        refine c1.mono ?_
        rintro e w1 ⟨⟨v, rfl, hown⟩, hb⟩
        obtain ⟨A1, k1, rfl, hh, _⟩ := Has.of_own hown
        clear hh hown
        go_wp2_with fail
        refine (cL _).mono ?_
        rintro e w2 ⟨rfl, hb2⟩
        replace hb2 := hb.trans (hb2.mono hb.size)
        go_wp2_with fail
        refine (c2 _).mono ?_
        rintro e w3 ⟨⟨v3, rfl, hown3⟩, hb3⟩
        rw [nvI_zv] at hown3
        obtain ⟨A3, k3, rfl, hh3, _⟩ := Has.of_own hown3
        replace hb3 := hb2.trans (hb3.mono hb2.size)
        clear hown3
        go_wp2_with fail
        refine (cE A3 k3 _ w3 hh3 (Nat.le_refl _)).mono ?_
        rintro e w4 ⟨rfl, hb4⟩
        replace hb4 := hb3.trans (hb4.mono hb3.size)
        cases q
        all_goals
          go_wp2_with fail
          refine (c4 _).mono ?_
          rintro e w5 ⟨rfl, hb5⟩
          replace hb5 := hb4.trans (hb5.mono hb4.size)
          go_wp2
          go_ret2
          exact ⟨rfl, hb5⟩
      · have hlN : decide ((P.length : Int) < (s.size : Int)) = false := decide_eq_false (by omega)
        have eO : toAOut (ls s) P = lowL (ls s) := by unfold toAOut; rw [if_neg (by rw [ls_length]; exact hlt)]
        rw [eO]
        have c4 := fun W => refLab_any (lowS s) W (by rw [← ls_length, show ls (lowS s) = lowL (ls s) from rfl, lowL_length, ls_length]; exact hs)
        rw [show ls (lowS s) = lowL (ls s) from rfl] at c4
        have HB : Hid (bs (lowL (ls s)) = lowS s) := rfl
        rw [show (some P).getD [] = P from rfl, show (some P).isSome = true from rfl] at c1
        obtain ⟨O, hO⟩ : ∃ O, O = lowL (ls s) := ⟨_, rfl⟩
        rw [← hO] at c4 HB ⊢
        obtain ⟨q, hq⟩ : ∃ q, q = labL O := ⟨_, rfl⟩
        rw [← hq] at c4 ⊢
        clear hp hpt htx hO hq eO hle
        have hfin : (if q = true then ((0 : Nat), O) else (14, [])) = (if q = true then 0 else 14, if q = true then O else []) := by cases q <;> rfl
        rw [hfin]
        have HF : Hid (bs (if q = true then O else []) = if q = true then lowS s else ByteArray.mk #[]) := by
          show _ = _
          cases q
          · rfl
          · exact HB.out
        rw [HF.out]
        clear HF HB hfin
        go_enter Tryd.func9, Tryd.ntmps9
        go_wp2_with fail
        refine c1.mono ?_
        rintro e w1 ⟨⟨v, rfl, hown⟩, hb⟩
        obtain ⟨A1, k1, rfl, hh, _⟩ := Has.of_own hown
        clear hh hown
        go_wp2_with fail
        refine (cL _).mono ?_
        rintro e w2 ⟨rfl, hb2⟩
        replace hb2 := hb.trans (hb2.mono hb.size)
        cases q
        all_goals
          go_wp2_with fail
          refine (c4 _).mono ?_
          rintro e w5 ⟨rfl, hb5⟩
          replace hb5 := hb2.trans (hb5.mono hb2.size)
          go_wp2
          go_ret2
          exact ⟨rfl, hb5⟩

end Go.Proofs.YtoieapdfpbcfpaaDoor
