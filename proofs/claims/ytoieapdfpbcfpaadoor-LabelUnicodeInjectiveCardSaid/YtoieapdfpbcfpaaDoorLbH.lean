/-
  Contracts of package label's functions properPoints, ToUnicode, Valid, ToASCII.
-/
import Derived.Test.YtoieapdfpbcfpaaDoorLabA
import Derived.Test.YtoieapdfpbcfpaaDoorLbF
import Derived.Test.YtoieapdfpbcfpaaDoorLbG
import Derived.Test.YtoieapdfpbcfpaaDoorLbW
import Derived.Test.YtoieapdfpbcfpaaDoorAsL
import Derived.Test.YtoieapdfpbcfpaaDoorPvD
import Derived.Test.YtoieapdfpbcfpaaDoorPvE
namespace Go.Proofs.YtoieapdfpbcfpaaDoor
open Go.RowKit

/-- The code points of what is proper. -/
def ppV (l : List UInt8) : List Nat := if propL l = true then decV l else []
def PpPost (l : List UInt8) (w : World) (e : Ending) (w' : World) : Prop := (∃ v, e = .returned (.tuple #[v, .bool (propL l)]) ∧ w'.ownsRow w.heap.size 3 1 v (ppV l).length ((ppV l).map nvI)) ∧ Below w.heap.size w w'
theorem PpPost.no {l : List UInt8} {w w' : World} (h : propL l = false) (hb : Below w.heap.size w w') : PpPost l w (.returned (.tuple #[.slice none 0 0, .bool false])) w' := by
  refine ⟨⟨_, by rw [h], ?_⟩, hb⟩
  unfold ppV
  rw [if_neg (by rw [h]; simp)]
  exact World.ownsRow_nil _ _ _ _
theorem PpPost.yes {l : List UInt8} {p : List Nat} {w w' : World} {v : Value} (h : propL l = true) (hd : decL l = .ok p) (ho : w'.ownsRow w.heap.size 3 1 v p.length (p.map nvI)) (hb : Below w.heap.size w w') : PpPost l w (.returned (.tuple #[v, .bool true])) w' := by
  refine ⟨⟨v, by rw [h], ?_⟩, hb⟩
  unfold ppV
  rw [if_pos h, (dec_ok hd).2]
  exact ho

set_option maxRecDepth 20000 in
set_option maxHeartbeats 2000000 in
theorem pp_any (r : ByteArray) (w : World) (hr : r.size ≤ 1000000000) :
    Calls Tryd.prog 26 #[.string r] w (PpPost (ls r) w) := by
  have c1 := pD12 r w hr
  unfold DecPost at c1
  cases hd : decL (ls r) with
  | error c =>
    have hc := dec_err_ne hd
    obtain ⟨d1, d2⟩ := dec_err hd
    have hcz : ((c : Int) != 0) = true := by rw [bne_iff_ne]; omega
    have hcN : (c != 0) = true := by rw [bne_iff_ne]; exact hc
    have HN := Lib.hid (prop_no hd)
    rw [d1, d2] at c1
    clear hd d1 d2
    go_enter Tryd.func26, Tryd.ntmps26
    go_wp2_with fail
    refine c1.mono ?_
    rintro e w1 ⟨⟨v, rfl, _⟩, hb⟩
    go_wp2
    go_ret2
    exact PpPost.no HN.out hb
  | ok p =>
    obtain ⟨hP, hpl, _, _⟩ := enc_dec hd
    obtain ⟨d1, d2⟩ := dec_ok hd
    have hple : ∀ x ∈ p, x ≤ 1114111 := fun x hx => ptN_le (hP x hx)
    have cE := fun A c B W hin hB => pE12 (p.map (fun n : Nat => (n : Int))) A p.length c B W hin hB (by rw [List.length_map]; omega)
    rw [encL_of hP hpl] at cE
    obtain ⟨X, hX⟩ : ∃ X, X = bs (encB p) := ⟨_, rfl⟩
    rw [show ((0 : Nat), encB p).2 = encB p from rfl, show (((0 : Nat), encB p).1 : Nat) = 0 from rfl, ← hX] at cE
    have cN := fun A c B W hA hB => cfN_any p hple A c B W hA hB (by omega)
    have cU := fun A c B W hA hB => cfU_any p hple A c B W hA hB (by omega)
    have hWF : ∀ z ∈ p.map (fun n : Nat => (n : Int)), -9223372036854775808 ≤ z ∧ z ≤ 9223372036854775807 := by
      intro z hz
      obtain ⟨x, hx, rfl⟩ := List.mem_map.1 hz
      exact pt_range (hple x hx)
    have HWF := Lib.hid hWF
    obtain ⟨q, hq⟩ : ∃ q, (X.toList == r.toList) = q := ⟨_, rfl⟩
    have hqn : (X.toList != r.toList) = !q := by rw [← hq]; rfl
    have HR : Hid (propL (ls r) = (p.any (fun x => decide (128 ≤ x)) && !(p.any bigP) && q)) := by
      show _ = _
      rw [prop_ok hd, ← hq, hX, toList_ls, toList_ls, ls_bs]
      unfold othK bigK
      rw [List.take_length]
      congr 1
      by_cases he : encB p = ls r
      · rw [he]; simp
      · rw [decide_eq_false he]; simp [he]
    obtain ⟨bn, hbn⟩ : ∃ b, b = p.any (fun x => decide (128 ≤ x)) := ⟨_, rfl⟩
    obtain ⟨bu, hbu⟩ : ∃ b, b = p.any bigP := ⟨_, rfl⟩
    rw [← hbn] at cN HR
    rw [← hbu] at cU HR
    have HD := Lib.hid hd
    rw [d1, d2] at c1
    clear hd d1 d2 hX hP hple hWF hbn hbu hpl
    cases bn with
    | false =>
      have HN : Hid (propL (ls r) = false) := by show _ = _; rw [HR.out]; rfl
      go_enter Tryd.func26, Tryd.ntmps26
      go_wp2_with fail
      refine c1.mono ?_
      rintro e w1 ⟨⟨v, rfl, hown⟩, hb⟩
      obtain ⟨A1, k1, rfl, hh, _⟩ := Has.of_own hown
      go_wp2_with fail
      refine (cN A1 k1 _ w1 hh (Nat.le_refl _)).mono ?_
      rintro e w2 ⟨rfl, hb2⟩
      go_wp2
      go_ret2
      exact PpPost.no HN.out (hb.trans (hb2.mono hb.size))
    | true =>
      cases bu with
      | true =>
        have HN : Hid (propL (ls r) = false) := by show _ = _; rw [HR.out]; rfl
        go_enter Tryd.func26, Tryd.ntmps26
        go_wp2_with fail
        refine c1.mono ?_
        rintro e w1 ⟨⟨v, rfl, hown⟩, hb⟩
        obtain ⟨A1, k1, rfl, hh, _⟩ := Has.of_own hown
        go_wp2_with fail
        refine (cN A1 k1 _ w1 hh (Nat.le_refl _)).mono ?_
        rintro e w2 ⟨rfl, hb2⟩
        have hh2 := hh.below hb2
        have hs2 := hb2.size
        replace hb2 := hb.trans (hb2.mono hb.size)
        go_wp2_with fail
        refine (cU A1 k1 _ w2 hh2 hs2).mono ?_
        rintro e w3 ⟨rfl, hb3⟩
        go_wp2
        go_ret2
        exact PpPost.no HN.out (hb2.trans (hb3.mono hb2.size))
      | false =>
        have HP : Hid (propL (ls r) = q) := by show _ = _; rw [HR.out]; simp
        clear HR
        cases q
        all_goals
          go_enter Tryd.func26, Tryd.ntmps26
          go_wp2_with fail
          refine c1.mono ?_
          rintro e w1 ⟨⟨v, rfl, hown⟩, hb⟩
          have hown0 := hown
          rw [nvI_zv] at hown
          obtain ⟨A1, k1, rfl, hin1⟩ := inZ_own hown HWF.out
          have hh := hin1.has
          rw [← nvI_zv] at hh
          clear hown
          go_wp2_with fail
          refine (cN A1 k1 _ w1 hh (Nat.le_refl _)).mono ?_
          rintro e w2 ⟨rfl, hb2⟩
          have hh2 := hh.below hb2
          have hin2 := hin1.below hb2 (Nat.le_refl _)
          have hown2 := own_below hown0 hb2
          have hs2 := hb2.size
          replace hb2 := hb.trans (hb2.mono hb.size)
          clear hown0 hin1
          go_wp2_with fail
          refine (cU A1 k1 _ w2 hh2 hs2).mono ?_
          rintro e w3 ⟨rfl, hb3⟩
          have hin3 := hin2.below hb3 hs2
          have hown3 := own_below hown2 hb3
          have hs3 := Nat.le_trans hs2 hb3.size
          replace hb3 := hb2.trans (hb3.mono hb2.size)
          clear hown2 hin2 hh2 hh
          go_wp2_with fail
          refine (cE A1 k1 _ w3 hin3 hs3).mono ?_
          rintro e w4 ⟨rfl, hb4⟩
          have hown4 := own_below hown3 hb4
          replace hb4 := hb3.trans (hb4.mono hb3.size)
          clear hown3 hin3
          go_wp2
          go_ret2
          first
          | exact PpPost.no HP.out hb4
          | exact PpPost.yes HP.out HD.out hown4 hb4

end Go.Proofs.YtoieapdfpbcfpaaDoor
