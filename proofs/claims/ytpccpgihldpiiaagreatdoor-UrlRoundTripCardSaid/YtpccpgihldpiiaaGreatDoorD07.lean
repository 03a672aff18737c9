/-
Contracts of package label's functions properPoints, ToUnicode, Valid, ToASCII.
Contracts of package label's ToUnicode, Valid and ToASCII.
What the program's functions do, as the walks of the statements on hosts ask it.
-/
import Derived.Test.YtpccpgihldpiiaaGreatDoorC16
import Derived.Test.YtpccpgihldpiiaaGreatDoorD04
import Derived.Test.YtpccpgihldpiiaaGreatDoorD05
import Derived.Test.YtpccpgihldpiiaaGreatDoorC30
import Derived.Test.YtpccpgihldpiiaaGreatDoorD06
import Derived.Test.YtpccpgihldpiiaaGreatDoorC18
import Derived.Test.YtpccpgihldpiiaaGreatDoorC25
import Derived.Test.YtpccpgihldpiiaaGreatDoorD00
import Derived.Test.YtpccpgihldpiiaaGreatDoorD01
import Derived.Test.YtpccpgihldpiiaaGreatDoorD02
namespace Go.Proofs.YtpccpgihldpiiaaGreatDoor
section
open Go.RowKit

/-- The code points of what is proper. -/
def ppV (l : List UInt8) : List Nat := if propL l = true then puV l else []
def PpPost (l : List UInt8) (w : World) (e : Ending) (w' : World) : Prop := (∃ v, e = .returned (.tuple #[v, .bool (propL l)]) ∧ w'.ownsRow w.heap.size 3 1 v (ppV l).length ((ppV l).map nvI)) ∧ Below w.heap.size w w'
theorem PpPost.no {l : List UInt8} {w w' : World} (h : propL l = false) (hb : Below w.heap.size w w') : PpPost l w (.returned (.tuple #[.slice none 0 0, .bool false])) w' := by
  refine ⟨⟨_, by rw [h], ?_⟩, hb⟩
  unfold ppV
  rw [if_neg (by rw [h]; simp)]
  exact World.ownsRow_nil _ _ _ _
theorem PpPost.yes {l : List UInt8} {p : List Nat} {w w' : World} {v : Value} (h : propL l = true) (hd : decL l = .ok p) (ho : w'.ownsRow w.heap.size 3 1 v p.length (p.map nvI)) (hb : Below w.heap.size w w') : PpPost l w (.returned (.tuple #[v, .bool true])) w' := by
  refine ⟨⟨v, by rw [h], ?_⟩, hb⟩
  unfold ppV
  rw [if_pos h, (dec_ok hd).2]
  exact ho

set_option maxRecDepth 20000 in
set_option maxHeartbeats 2000000 in
theorem pp_any (r : ByteArray) (w : World) (hr : r.size ≤ 1000000000) :
    Calls Tryz.prog 140 #[.string r] w (PpPost (ls r) w) := by
  have c1 := pD12 r w hr
  unfold DecPost at c1
  cases hd : decL (ls r) with
  | error c =>
    have hc := dec_err_ne hd
    obtain ⟨d1, d2⟩ := dec_err hd
    have hcz : ((c : Int) != 0) = true := by rw [bne_iff_ne]; omega
    have hcN : (c != 0) = true := by rw [bne_iff_ne]; exact hc
    have HN := Lib.hid (prop_no hd)
    rw [d1, d2] at c1
    clear hd d1 d2
    go_enter Tryz.func140, Tryz.ntmps140
    go_wp2_with fail
    refine c1.mono ?_
    rintro e w1 ⟨⟨v, rfl, _⟩, hb⟩
    go_wp2
    go_ret2
    exact PpPost.no HN.out hb
  | ok p =>
    obtain ⟨hP, hpl, _, _⟩ := enc_dec hd
    obtain ⟨d1, d2⟩ := dec_ok hd
    have hple : ∀ x ∈ p, x ≤ 1114111 := fun x hx => ptN_le (hP x hx)
    have cE := fun A c B W hin hB => pE12 (p.map (fun n : Nat => (n : Int))) A p.length c B W hin hB (by rw [List.length_map]; omega)
    rw [encL_of hP hpl] at cE
    obtain ⟨X, hX⟩ : ∃ X, X = bs (encB p) := ⟨_, rfl⟩
    rw [show ((0 : Nat), encB p).2 = encB p from rfl, show (((0 : Nat), encB p).1 : Nat) = 0 from rfl, ← hX] at cE
    have cN := fun A c B W hA hB => cfN_any p hple A c B W hA hB (by omega)
    have cU := fun A c B W hA hB => cfU_any p hple A c B W hA hB (by omega)
    have hWF : ∀ z ∈ p.map (fun n : Nat => (n : Int)), -9223372036854775808 ≤ z ∧ z ≤ 9223372036854775807 := by
      intro z hz
      obtain ⟨x, hx, rfl⟩ := List.mem_map.1 hz
      exact pt_range (hple x hx)
    have HWF := Lib.hid hWF
    obtain ⟨q, hq⟩ : ∃ q, (X.toList == r.toList) = q := ⟨_, rfl⟩
    have hqn : (X.toList != r.toList) = !q := by rw [← hq]; rfl
    have HR : Hid (propL (ls r) = (p.any (fun x => decide (128 ≤ x)) && !(p.any bigP) && q)) := by
      show _ = _
      rw [prop_ok hd, ← hq, hX, toList_ls, toList_ls, ls_bs]
      unfold othK bigK
      rw [List.take_length]
      congr 1
      by_cases he : encB p = ls r
      · rw [he]; simp
      · rw [decide_eq_false he]; simp [he]
    obtain ⟨bn, hbn⟩ : ∃ b, b = p.any (fun x => decide (128 ≤ x)) := ⟨_, rfl⟩
    obtain ⟨bu, hbu⟩ : ∃ b, b = p.any bigP := ⟨_, rfl⟩
    rw [← hbn] at cN HR
    rw [← hbu] at cU HR
    have HD := Lib.hid hd
    rw [d1, d2] at c1
    clear hd d1 d2 hX hP hple hWF hbn hbu hpl
    cases bn with
    | false =>
      have HN : Hid (propL (ls r) = false) := by show _ = _; rw [HR.out]; rfl
      go_enter Tryz.func140, Tryz.ntmps140
      go_wp2_with fail
      refine c1.mono ?_
      rintro e w1 ⟨⟨v, rfl, hown⟩, hb⟩
      obtain ⟨A1, k1, rfl, hh, _⟩ := Has.of_own hown
      go_wp2_with fail
      refine (cN A1 k1 _ w1 hh (Nat.le_refl _)).mono ?_
      rintro e w2 ⟨rfl, hb2⟩
      go_wp2
      go_ret2
      exact PpPost.no HN.out (hb.trans (hb2.mono hb.size))
    | true =>
      cases bu with
      | true =>
        have HN : Hid (propL (ls r) = false) := by show _ = _; rw [HR.out]; rfl
        go_enter Tryz.func140, Tryz.ntmps140
        go_wp2_with fail
        refine c1.mono ?_
        rintro e w1 ⟨⟨v, rfl, hown⟩, hb⟩
        obtain ⟨A1, k1, rfl, hh, _⟩ := Has.of_own hown
        go_wp2_with fail
        refine (cN A1 k1 _ w1 hh (Nat.le_refl _)).mono ?_
        rintro e w2 ⟨rfl, hb2⟩
        have hh2 := hh.below hb2
        have hs2 := hb2.size
        replace hb2 := hb.trans (hb2.mono hb.size)
        go_wp2_with fail
        refine (cU A1 k1 _ w2 hh2 hs2).mono ?_
        rintro e w3 ⟨rfl, hb3⟩
        go_wp2
        go_ret2
        exact PpPost.no HN.out (hb2.trans (hb3.mono hb2.size))
      | false =>
        have HP : Hid (propL (ls r) = q) := by show _ = _; rw [HR.out]; simp
        clear HR
        cases q
        all_goals
          go_enter Tryz.func140, Tryz.ntmps140
          go_wp2_with fail
          refine c1.mono ?_
          rintro e w1 ⟨⟨v, rfl, hown⟩, hb⟩
          have hown0 := hown
          rw [nvI_zv] at hown
          obtain ⟨A1, k1, rfl, hin1⟩ := inZ_own hown HWF.out
          have hh := hin1.has
          rw [← nvI_zv] at hh
          clear hown
          go_wp2_with fail
          refine (cN A1 k1 _ w1 hh (Nat.le_refl _)).mono ?_
          rintro e w2 ⟨rfl, hb2⟩
          have hh2 := hh.below hb2
          have hin2 := hin1.below hb2 (Nat.le_refl _)
          have hown2 := own_below hown0 hb2
          have hs2 := hb2.size
          replace hb2 := hb.trans (hb2.mono hb.size)
          clear hown0 hin1
          go_wp2_with fail
          refine (cU A1 k1 _ w2 hh2 hs2).mono ?_
          rintro e w3 ⟨rfl, hb3⟩
          have hin3 := hin2.below hb3 hs2
          have hown3 := own_below hown2 hb3
          have hs3 := Nat.le_trans hs2 hb3.size
          replace hb3 := hb2.trans (hb3.mono hb2.size)
          clear hown2 hin2 hh2 hh
          go_wp2_with fail
          refine (cE A1 k1 _ w3 hin3 hs3).mono ?_
          rintro e w4 ⟨rfl, hb4⟩
          have hown4 := own_below hown3 hb4
          replace hb4 := hb3.trans (hb4.mono hb3.size)
          clear hown3 hin3
          go_wp2
          go_ret2
          first
          | exact PpPost.no HP.out hb4
          | exact PpPost.yes HP.out HD.out hown4 hb4
end

section
open Go.RowKit

set_option maxRecDepth 20000 in
set_option maxHeartbeats 2000000 in
theorem pTU : LbTU 97 := by
  intro s w hs
  have c1 := plain_any s
  cases hpl : plainL (ls s) with
  | false =>
    have hl : labL (ls s) = false := by rw [lab_plain, hpl]; rfl
    rw [toU_no hl]
    rw [hpl] at c1
    clear hl hpl
    go_enter Tryz.func97, Tryz.ntmps97
    go_wp2_with (go_at_call 139; refine (c1 _).mono ?_; rintro e w1 ⟨rfl, rfl⟩)
    go_ret2
    exact ⟨rfl, Below.refl _ _⟩
  | true =>
    rw [hpl] at c1
    by_cases hx : (ls s).take 4 = xnL
    · have hlp : labL (ls s) = propL ((ls s).drop 4) := by rw [lab_plain, hpl, decide_eq_false (by simp [hx])]; rfl
      have c2 := cut_yes hx
      obtain ⟨r, hr⟩ : ∃ r, r = bs ((ls s).drop 4) := ⟨_, rfl⟩
      have hrs : r.size ≤ 1000000000 := by rw [hr, bs_size, List.length_drop, ls_length]; omega
      have c3 := fun W => pp_any r W hrs
      unfold PpPost at c3
      rw [← hr] at c2
      have hlr : ls r = (ls s).drop 4 := by rw [hr, ls_bs]
      rw [hlr] at c3
      cases hpr : propL ((ls s).drop 4) with
      | false =>
        rw [toU_no (hlp.trans hpr)]
        rw [hpr] at c3
        clear hpl hx hlp hr hlr hpr
        go_enter Tryz.func97, Tryz.ntmps97
        go_wp2_with (first | (go_at_call 139; refine (c1 _).mono ?_; rintro e w1 ⟨rfl, rfl⟩) | (go_at_call 44; refine (c2 _).mono ?_; rintro e w1 ⟨rfl, rfl⟩))
        refine (c3 _).mono ?_
        rintro e w1 ⟨⟨v, rfl, hown⟩, hb⟩
        go_wp2
        go_ret2
        exact ⟨rfl, hb⟩
      | true =>
        obtain ⟨p, hd, hP, hpl2, _, _, _⟩ := prop_of hpr
        rw [toU_xn (hlp.trans hpr) hx hd]
        have hV : ppV ((ls s).drop 4) = p := by unfold ppV; rw [if_pos hpr, (dec_ok hd).2]
        rw [hpr, hV] at c3
        have c4 := fun A cap B W hA hB => tof_any p hP A cap B W hA hB (by omega)
        obtain ⟨X, hX⟩ : ∃ X, X = bs (txtL p) := ⟨_, rfl⟩
        rw [← hX] at c4
        rw [show bs ((0 : Nat), txtL p).2 = X from hX.symm]
        clear hpl hx hlp hr hlr hpr hd hV hX hP
        go_enter Tryz.func97, Tryz.ntmps97
        go_wp2_with (first | (go_at_call 139; refine (c1 _).mono ?_; rintro e w1 ⟨rfl, rfl⟩) | (go_at_call 44; refine (c2 _).mono ?_; rintro e w1 ⟨rfl, rfl⟩))
        refine (c3 _).mono ?_
        rintro e w1 ⟨⟨v, rfl, hown⟩, hb⟩
        obtain ⟨A1, k1, rfl, hh, _⟩ := Has.of_own hown
        go_wp2_with fail
        refine (c4 A1 k1 _ w1 hh (Nat.le_refl _)).mono ?_
        rintro e w2 ⟨rfl, hb2⟩
        go_wp2
        go_ret2
        exact ⟨rfl, hb.trans (hb2.mono hb.size)⟩
    · have hl : labL (ls s) = true := by rw [lab_plain, hpl, decide_eq_true hx]; rfl
      rw [toU_self hl hx, show bs ((0 : Nat), ls s).2 = s from bs_ls s]
      have c2 := cut_no hx
      have c3 := fun W => cl_any s W hs
      clear hpl hx hl
      go_enter Tryz.func97, Tryz.ntmps97
      go_wp2_with (first | (go_at_call 139; refine (c1 _).mono ?_; rintro e w1 ⟨rfl, rfl⟩) | (go_at_call 44; refine (c2 _).mono ?_; rintro e w1 ⟨rfl, rfl⟩))
      refine (c3 _).mono ?_
      rintro e w1 ⟨rfl, hb⟩
      go_wp2
      go_ret2
      exact ⟨rfl, hb⟩

theorem pVal : LbVal 59 := by
  intro s w hs
  have c1 := pTU s w hs
  rcases toU_cases (ls s) with ⟨hl, h0⟩ | ⟨hl, h0⟩
  · rw [hl]
    rw [h0] at c1
    generalize bs (toU (ls s)).2 = X at c1
    clear hl h0
    go_enter Tryz.func59, Tryz.ntmps59
    go_wp2_with fail
    refine c1.mono ?_
    rintro e w1 ⟨rfl, hb⟩
    go_wp2
    go_ret
    exact ⟨rfl, hb⟩
  · rw [hl]
    rw [h0] at c1
    clear hl h0
    go_enter Tryz.func59, Tryz.ntmps59
    go_wp2_with fail
    refine c1.mono ?_
    rintro e w1 ⟨rfl, hb⟩
    go_wp2
    go_ret
    exact ⟨rfl, hb⟩

set_option maxRecDepth 20000 in
set_option maxHeartbeats 2000000 in
theorem pTA : LbTA 85 := by
  intro s w hs hT
  have c1 := vs_any s w hs hT
  cases hp : ptsL (ls s) with
  | none =>
    rw [toA_none hp]
    rw [hp] at c1
    clear hp
    go_enter Tryz.func85, Tryz.ntmps85
    go_wp2_with (go_at_call 122; refine c1.mono ?_; rintro e w1 ⟨rfl, hb⟩)
    go_ret2
    exact ⟨rfl, hb⟩
  | some P =>
    obtain ⟨hpt, htx⟩ := txt_pts hp
    have hle := (txtL_len P).1
    rw [htx, ls_length] at hle
    rw [hp] at c1
    have c2 := fun W => rc_any hp W hs
    rw [show (some P).isSome = true from rfl] at c1
    by_cases h256 : 256 < P.length
    · rw [toA_many hp h256]
      have hd : decide ((256 : Int) < (P.length : Int)) = true := decide_eq_true (by omega)
      clear hp hpt htx
      go_enter Tryz.func85, Tryz.ntmps85
      go_wp2_with fail
      refine c1.mono ?_
      rintro e w1 ⟨rfl, hb⟩
      go_wp2_with fail
      refine (c2 _).mono ?_
      rintro e w2 ⟨rfl, hb2⟩
      go_wp2
      go_ret2
      exact ⟨rfl, hb.trans (hb2.mono hb.size)⟩
    · rw [toA_some hp h256]
      have hd : decide ((256 : Int) < (P.length : Int)) = false := decide_eq_false (by omega)
      have cL := fun W => lower_any s W hs
      by_cases hlt : P.length < s.size
      · have hlN : decide ((P.length : Int) < (s.size : Int)) = true := decide_eq_true (by omega)
        have hpt2 : ∀ x ∈ P.map lowP, ptN x = true := by
          intro x hx
          obtain ⟨y, hy, rfl⟩ := List.mem_map.1 hx
          exact lowP_pt (hpt y hy)
        have hpq : ptsL (ls (lowS s)) = some (P.map lowP) := by rw [show ls (lowS s) = lowL (ls s) from rfl, pts_low, hp]; rfl
        have eO : toAOut (ls s) P = xnL ++ encB (P.map lowP) := by unfold toAOut; rw [if_pos (by rw [ls_length]; exact hlt)]
        obtain ⟨Q, hQ⟩ : ∃ Q, Q = P.map lowP := ⟨_, rfl⟩
        have hQl : Q.length = P.length := by rw [hQ, List.length_map]
        rw [← hQ] at hpt2 hpq eO
        have c3 := fun W hW => pof_any (lowS s) Q hpq W (by rw [lowS_size]; exact hs) hW
        have hWF : ∀ z ∈ Q.map (fun n : Nat => (n : Int)), -9223372036854775808 ≤ z ∧ z ≤ 9223372036854775807 := by
          intro z hz
          obtain ⟨x, hx, rfl⟩ := List.mem_map.1 hz
          exact pt_range (ptN_le (hpt2 x hx))
        have HWF := Lib.hid hWF
        have cE := fun A c B W hin hB => pE12 (Q.map (fun n : Nat => (n : Int))) A Q.length c B W hin hB (by rw [List.length_map]; omega)
        rw [encL_of hpt2 (by omega)] at cE
        obtain ⟨X, hX⟩ : ∃ X, X = bs (encB Q) := ⟨_, rfl⟩
        rw [show ((0 : Nat), encB Q).2 = encB Q from rfl, show (((0 : Nat), encB Q).1 : Nat) = 0 from rfl, ← hX] at cE
        have hXl : X.size ≤ 4000 := by
          have := encB_len hpt2 (by omega)
          rw [hX, bs_size]
          omega
        have hY : ∀ Y : ByteArray, Y = (⟨#[120, 110, 45, 45]⟩ : ByteArray) ++ X → Y.size ≤ 1000000000 ∧ ls Y = toAOut (ls s) P := by
          intro Y hY
          refine ⟨?_, ?_⟩
          · rw [hY, ByteArray.size_append, show (⟨#[120, 110, 45, 45]⟩ : ByteArray).size = 4 from rfl]; omega
          · rw [hY, ls_append, hX, eO]; rfl
        obtain ⟨hYs, eY⟩ := hY _ rfl
        have c4 := fun W => pVal _ W hYs
        rw [eY] at c4
        have HB : Hid (bs (toAOut (ls s) P) = (⟨#[120, 110, 45, 45]⟩ : ByteArray) ++ X) := by show _ = _; rw [← eY, bs_ls]
        obtain ⟨O, hO⟩ : ∃ O, O = toAOut (ls s) P := ⟨_, rfl⟩
        rw [← hO] at c4 HB ⊢
        obtain ⟨q, hq⟩ : ∃ q, q = labL O := ⟨_, rfl⟩
        rw [← hq] at c4 ⊢
        have HTT := Lib.hid hT
        clear hp hpt htx hX hY eY hO hq eO hQ hQl hpt2 hpq hs hYs hle hWF hT
        have hfin : (if q = true then ((0 : Nat), O) else (14, [])) = (if q = true then 0 else 14, if q = true then O else []) := by cases q <;> rfl
        rw [hfin]
        have HF : Hid (bs (if q = true then O else []) = if q = true then (⟨#[120, 110, 45, 45]⟩ : ByteArray) ++ X else ByteArray.mk #[]) := by
          show _ = _
          cases q
          · rfl
          · exact HB.out
        rw [HF.out]
        clear HF HB hfin
        go_enter Tryz.func85, Tryz.ntmps85
        go_wp2_with fail
        refine c1.mono ?_
        rintro e w1 ⟨rfl, hb⟩
        go_wp2_with fail
        refine (c2 _).mono ?_
        rintro e w2 ⟨rfl, hb2⟩
        replace hb2 := hb.trans (hb2.mono hb.size)
        go_wp2_with fail
        refine (cL _).mono ?_
        rintro e w3 ⟨rfl, hb3⟩
        replace hb3 := hb2.trans (hb3.mono hb2.size)
        have c5 := c3 w3 (u8_below HTT.out hb3)
        go_wp2_with fail
        refine c5.mono ?_
        rintro e w4 ⟨⟨v, rfl, hown⟩, hb4⟩
        rw [nvI_zv] at hown
        obtain ⟨A4, k4, rfl, hin4⟩ := inZ_own hown HWF.out
        replace hb4 := hb3.trans (hb4.mono hb3.size)
        clear hown c5 c3
        go_wp2_with fail
        refine (cE A4 k4 _ w4 hin4 (Nat.le_refl _)).mono ?_
        rintro e w5 ⟨rfl, hb5⟩
        replace hb5 := hb4.trans (hb5.mono hb4.size)
        clear hin4 cE
        cases q
        all_goals
          go_wp2_with fail
          refine (c4 _).mono ?_
          rintro e w6 ⟨rfl, hb6⟩
          replace hb6 := hb5.trans (hb6.mono hb5.size)
          go_wp2
          go_ret2
          exact ⟨rfl, hb6⟩
      · have hlN : decide ((P.length : Int) < (s.size : Int)) = false := decide_eq_false (by omega)
        have eO : toAOut (ls s) P = lowL (ls s) := by unfold toAOut; rw [if_neg (by rw [ls_length]; exact hlt)]
        rw [eO]
        have c4 := fun W => pVal (lowS s) W (by rw [lowS_size]; exact hs)
        rw [show ls (lowS s) = lowL (ls s) from rfl] at c4
        have HB : Hid (bs (lowL (ls s)) = lowS s) := rfl
        obtain ⟨O, hO⟩ : ∃ O, O = lowL (ls s) := ⟨_, rfl⟩
        rw [← hO] at c4 HB ⊢
        obtain ⟨q, hq⟩ : ∃ q, q = labL O := ⟨_, rfl⟩
        rw [← hq] at c4 ⊢
        clear hp hpt htx hO hq eO hle
        have hfin : (if q = true then ((0 : Nat), O) else (14, [])) = (if q = true then 0 else 14, if q = true then O else []) := by cases q <;> rfl
        rw [hfin]
        have HF : Hid (bs (if q = true then O else []) = if q = true then lowS s else ByteArray.mk #[]) := by
          show _ = _
          cases q
          · rfl
          · exact HB.out
        rw [HF.out]
        clear HF HB hfin
        go_enter Tryz.func85, Tryz.ntmps85
        go_wp2_with fail
        refine c1.mono ?_
        rintro e w1 ⟨rfl, hb⟩
        go_wp2_with fail
        refine (c2 _).mono ?_
        rintro e w2 ⟨rfl, hb2⟩
        replace hb2 := hb.trans (hb2.mono hb.size)
        go_wp2_with fail
        refine (cL _).mono ?_
        rintro e w3 ⟨rfl, hb3⟩
        replace hb3 := hb2.trans (hb3.mono hb2.size)
        cases q
        all_goals
          go_wp2_with fail
          refine (c4 _).mono ?_
          rintro e w6 ⟨rfl, hb6⟩
          replace hb6 := hb3.trans (hb6.mono hb3.size)
          go_wp2
          go_ret2
          exact ⟨rfl, hb6⟩
end

section
open Go.RowKit

theorem qNum : HoNum 48 := fun s w hs => (num_any s hs w).mono fun _e _w' h => ⟨h.1, h.2 ▸ Below.refl _ _⟩
theorem qPN : HoPN 83 := fun s w hs => (pn_any s hs w).mono fun _e _w' h => ⟨h.1, h.2 ▸ Below.refl _ _⟩
theorem qF4 : HoF4 152 := fun v h0 h1 w hp => fmt_any v h0 h1 w hp
theorem qP6 : HoP6 75 := pPar6
theorem qLab : HoLab 18 := lab_any qNum pVal
theorem qVn : HoVn 16 := vn_any qLab
theorem qCov : HoCov 23 := cov_any qVn
theorem qVal : HoVal 151 := valid_any qVn
theorem qFmt : HoFmt 108 := format_any qVal qF4 pFmt6
theorem qPar : HoPar 13 := parse_host qNum qPN qP6 pTA
end

end Go.Proofs.YtpccpgihldpiiaaGreatDoor
