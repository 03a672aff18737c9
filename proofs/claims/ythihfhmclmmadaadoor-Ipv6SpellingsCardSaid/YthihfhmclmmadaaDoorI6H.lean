/-
  Contract of Format of package ipv6.
-/
import Derived.Test.YthihfhmclmmadaaDoorI6F
import Derived.Test.YthihfhmclmmadaaDoorI6G
import Derived.Deep.RegionHeld3
namespace Go.Proofs.YthihfhmclmmadaaDoor
open Go.RowKit

theorem bs_add6 (l m : List UInt8) : bs l ++ bs m = bs (l ++ m) := ls_inj (by rw [ls_append, ls_bs, ls_bs, ls_bs])
/-- A part of an array of eight groups. -/
theorem a8_part {w : World} {g : Nat} {C : List Nat} (h : RowA w g C) (hC : C.length = 8) (l m : Nat) (hm : l + m ≤ 8) {B : Nat} (hB : g < B) (A : Option Addr) (hA : 0 < m → A = some ⟨g, l, none⟩) : Has w B A m (uv ((C.drop l).take m)) := by
  refine ⟨by rw [uv_length, List.length_take, List.length_drop, hC]; omega, fun h0 => ⟨g, l, hA h0, hB, fun j hj => ?_⟩⟩
  have hj' : j < m := by
    rw [uv_length, List.length_take] at hj
    omega
  rw [h.cell (k := l + j) (by omega)]
  simp [uv, List.getD_eq_getElem?_getD, List.getElem?_eq_getElem (show l + j < C.length by omega)]
theorem lz_facts (a : List Nat) (ha : a.length = 8) : (lzS a = lzE a ∧ lzS a = 0 ∧ fmt6 a = joinL 58 (a.map hexT)) ∨ (lzS a < lzE a ∧ lzE a ≤ 8 ∧ fmt6 a = joinL 58 ((a.take (lzS a)).map hexT) ++ ([58, 58] ++ joinL 58 ((a.drop (lzE a)).map hexT))) := by
  rcases best_is a 8 with e | ⟨i, m, hi, e, h2, hm⟩
  · left
    unfold lzS lzE fmt6 txt6
    rw [e]
    refine ⟨rfl, rfl, ?_⟩
    rw [if_pos (.inl (by decide)), List.take_of_length_le (by omega)]
  · right
    have hz := zrun_le (a.drop i)
    rw [List.length_drop] at hz
    unfold lzS lzE fmt6 txt6
    rw [e]
    simp only
    rw [if_neg (by omega), if_neg (by omega), if_neg (by omega), List.take_of_length_le (show a.length ≤ 8 by omega)]
    exact ⟨by omega, by omega, rfl⟩
/-- A part of an array as it is given to a call. -/
theorem a8_slice (g l h : Nat) (hl : l ≤ h) (h8 : h ≤ 8) : ∃ A : Option Addr, (0 < h - l → A = some ⟨g, l, none⟩) ∧ A = some (if 8 = l then (⟨g, 0, none⟩ : Addr) else ⟨g, l, none⟩) :=
  ⟨_, fun h0 => by rw [if_neg (by omega)], rfl⟩

set_option maxRecDepth 20000 in
set_option maxHeartbeats 4000000 in
theorem pFmt6 : P6Fmt 10 := by
  intro a ha hg w hp
  have HAL := Lib.hid ha
  have HGG := Lib.hid hg
  have c0 := fun W => long_any a ha W
  have hfa := lz_facts a ha
  generalize hS : lzS a = S at *
  generalize hE : lzE a = E at *
  generalize fmt6 a = F at *
  clear hS hE
  rcases hfa with ⟨h1, h2, hF⟩ | ⟨h1, h2, hF⟩
  · subst h1
    subst h2
    have HF := Lib.hid hF
    clear hF
    go_enter Tryd.func10, Tryd.ntmps10
    go_wp2_with (first
      | (refine wpList_box_arr _ rfl 1 rfl _ _ rfl _ (av a) (by exact rfl) (by exact rfl) ?_; intro W1 ga hga hla hA hG; have hb1 := below_row0 (Below.refl w.heap.size w) hG (Nat.le_refl _))
      | (refine wpList_load_arr _ rfl _ _ rfl ga (by exact rfl) _ (av a) hA 8 _ tyA8 (sizeA a HAL.out) ?_))
    refine (c0 _).mono ?_
    rintro e w2 ⟨rfl, hb2⟩
    have hA2 : RowA w2 ga a := Row.below hA hb2 hla
    replace hb2 := hb1.trans (hb2.mono hb1.size)
    have hsl := fun W => run_slice_arr (P := Tryd.prog) 23 22 8 ga 0 8 tyA8 sizeU16 none none (.inr ⟨rfl, rfl⟩) (.inr ⟨rfl, rfl⟩) (by omega) (by omega) W
    simp only [if_neg (show ¬ 8 = 0 by omega), Nat.sub_zero] at hsl
    have hh := a8_part hA2 HAL.out 0 8 (by omega) hA2.lt (some ⟨ga, 0, none⟩) (fun _ => rfl)
    rw [List.drop_zero, List.take_of_length_le (by rw [HAL.out]; exact Nat.le_refl _)] at hh
    have hp2 := pow6_below hp hb2
    clear hG hA hA2
    go_wp2_with fail
    refine (joined_any _ 8 8 a HGG.out (by omega) w2 hp2 hh).mono ?_
    rintro e w3 ⟨rfl, hb3⟩
    replace hb3 := hb2.trans (hb3.mono hb2.size)
    go_wp2
    go_ret
    exact ⟨by rw [HF.out]; rfl, hb3⟩
  · obtain ⟨J1, hJ1⟩ : ∃ J, J = bs (joinL 58 ((a.take S).map hexT)) := ⟨_, rfl⟩
    obtain ⟨J2, hJ2⟩ : ∃ J, J = bs (joinL 58 ((a.drop E).map hexT)) := ⟨_, rfl⟩
    have hz1 : J1.size ≤ 40 := by
      rw [hJ1, bs_size]
      have := join_len (a.take S) (hg.take S)
      rw [List.length_take] at this
      omega
    have hz2 : J2.size ≤ 40 := by
      rw [hJ2, bs_size]
      have := join_len (a.drop E) (hg.drop E)
      rw [List.length_drop] at this
      omega
    have HF : Hid (bs F = (J1 ++ (⟨#[58, 58]⟩ : ByteArray)) ++ J2) := by
      show _ = _
      rw [hF, hJ1, hJ2, show (⟨#[58, 58]⟩ : ByteArray) = bs [58, 58] from rfl, bs_add6, bs_add6, List.append_assoc]
    have k1 : ¬ 9223372036854775807 < J1.size + 2 := by omega
    have k2 : ¬ 9223372036854775807 < J1.size + (⟨#[58, 58]⟩ : ByteArray).size := by rw [show (⟨#[58, 58]⟩ : ByteArray).size = 2 from rfl]; omega
    have k3 : ¬ 9223372036854775807 < J1.size + 2 + J2.size := by omega
    have k4 : ¬ 9223372036854775807 < (J1 ++ (⟨#[58, 58]⟩ : ByteArray)).size + J2.size := by
      rw [ByteArray.size_append, show (⟨#[58, 58]⟩ : ByteArray).size = 2 from rfl]; omega
    have hne : ((S : Int) == (E : Int)) = false := by rw [beq_eq_false_iff_ne]; omega
    have hJa := fun (A : Option Addr) (W : World) (h1 : Pow6 W) (h2 : Has W W.heap.size A S (uv (a.take S))) => joined_any A S 8 (a.take S) (HGG.out.take S) (by omega) W h1 h2
    have hJb := fun (A : Option Addr) (W : World) (h1 : Pow6 W) (h2 : Has W W.heap.size A (8 - E) (uv (a.drop E))) => joined_any A (8 - E) (8 - E) (a.drop E) (HGG.out.drop E) (by omega) W h1 h2
    rw [← hJ1] at hJa
    rw [← hJ2] at hJb
    have HSE := Lib.hid h1
    have HE8 := Lib.hid h2
    clear hF hJ1 hJ2 hg hz1 hz2
    go_enter Tryd.func10, Tryd.ntmps10
    go_wp2_with (first
      | (refine wpList_box_arr _ rfl 1 rfl _ _ rfl _ (av a) (by exact rfl) (by exact rfl) ?_; intro W1 ga hga hla hA hG; have hb1 := below_row0 (Below.refl w.heap.size w) hG (Nat.le_refl _))
      | (refine wpList_load_arr _ rfl _ _ rfl ga (by exact rfl) _ (av a) hA 8 _ tyA8 (sizeA a HAL.out) ?_))
    refine (c0 _).mono ?_
    rintro e w2 ⟨rfl, hb2⟩
    have hA2 : RowA w2 ga a := Row.below hA hb2 hla
    replace hb2 := hb1.trans (hb2.mono hb1.size)
    have hs1 := fun W => run_slice_arr (P := Tryd.prog) 23 22 8 ga 0 S tyA8 sizeU16 none (some (.int .i64 (S : Int))) (.inr ⟨rfl, rfl⟩) (.inl rfl) (by omega) (by omega) W
    have hs2 := fun W => run_slice_arr (P := Tryd.prog) 23 22 8 ga E 8 tyA8 sizeU16 (some (.int .i64 (E : Int))) none (.inl rfl) (.inr ⟨rfl, rfl⟩) (by omega) (by omega) W
    simp only [if_neg (show ¬ 8 = 0 by omega), Nat.sub_zero] at hs1
    obtain ⟨A2, hA2e, hA20⟩ : ∃ A : Option Addr, A = some (if 8 = E then (⟨ga, 0, none⟩ : Addr) else ⟨ga, E, none⟩) ∧ (0 < 8 - E → A = some ⟨ga, E, none⟩) := ⟨_, rfl, fun h => by rw [if_neg (by omega)]⟩
    rw [← hA2e] at hs2
    have cL : ∀ W, Below w2.heap.size w2 W → Calls Tryd.prog 23 #[.slice (some ⟨ga, 0, none⟩) S 8] W fun e w' => e = .returned (.string J1) ∧ Below W.heap.size W w' := by
      intro W hbW
      have hAW : RowA W ga a := Row.below hA2 hbW hA2.lt
      have hh := a8_part hAW HAL.out 0 S (by have := HSE.out; have := HE8.out; omega) hAW.lt (some ⟨ga, 0, none⟩) (fun _ => rfl)
      rw [List.drop_zero] at hh
      exact hJa _ W (pow6_below (pow6_below hp hb2) hbW) hh
    have cR : ∀ W, Below w2.heap.size w2 W → Calls Tryd.prog 23 #[.slice A2 (8 - E) (8 - E)] W fun e w' => e = .returned (.string J2) ∧ Below W.heap.size W w' := by
      intro W hbW
      have hAW : RowA W ga a := Row.below hA2 hbW hA2.lt
      have hh := a8_part hAW HAL.out E (8 - E) (by have := HE8.out; omega) hAW.lt A2 hA20
      rw [List.take_of_length_le (by rw [List.length_drop, HAL.out]; exact Nat.le_refl _)] at hh
      exact hJb _ W (pow6_below (pow6_below hp hb2) hbW) hh
    have HB2 := Lib.hid hb2
    have hbX : Below w2.heap.size w2 w2.drew := (Below.refl _ _).drew
    have hcell := hA2.cell (k := 0) (by rw [HAL.out]; decide)
    clear hG hA hA2 hb2 hA2e hA20 hJa hJb h1 h2 c0 hb1
    go_wp2_with fail
    have htrue : True := trivial
    go_region_held3 (fun _ => True) (first | exact trivial | go_keep)
      (first
        | (go_at_call 23; (first | (with_reducible refine (cL _ hbX).mono ?_) | (with_reducible refine (cR _ hbX).mono ?_)); rintro r wA ⟨rfl, hbA'⟩; have hbA := hbX.trans (hbA'.mono hbX.size); clear hbX; have hbX := hbA))
    all_goals (go_wp2_with fail)
    all_goals go_ret
    all_goals exact ⟨by rw [HF.out]; rfl, HB2.out.trans (hbX.mono HB2.out.size)⟩

end Go.Proofs.YthihfhmclmmadaaDoor
