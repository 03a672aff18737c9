/-
  Contract of withGap of package ipv6.
-/
import Derived.Test.YthihfhmclmmadaaDoorI6N
import Derived.Test.YthihfhmclmmadaaDoorA16
import Derived.Test.YthihfhmclmmadaaDoorSlA
import Derived.Laws.CopyOwn
import Derived.StillTailTactics
namespace Go.Proofs.YthihfhmclmmadaaDoor
open Go.RowKit

theorem a8_cut (w : World) (g : Nat) (C : List Nat) (h : RowA w g C) (hC : C.length = 8) (l m : Nat) (hm : l + m ≤ 8) (B : Nat) (hB : g < B) (A : Option Addr) (hA : 0 < m → A = some ⟨g, l, none⟩) : Has w B A m (uv ((C.drop l).take m)) := by
  refine ⟨by rw [uv_length, List.length_take, List.length_drop, hC]; omega, fun h0 => ⟨g, l, hA h0, hB, fun j hj => ?_⟩⟩
  have hj' : j < m := by
    rw [uv_length, List.length_take] at hj
    omega
  rw [h.cell (k := l + j) (by omega)]
  simp [uv, List.getD_eq_getElem?_getD, List.getElem?_eq_getElem (show l + j < C.length by omega)]
/-- copy of groups into an array of eight groups. -/
theorem wpList_copy_a8 (w : World) {ops : Array Oper} {rest : List Oper} {o : Oper} {a : Act} {Q : Exit → Act → World → Prop} (hg : o.guard = none) (d s : Operand)
    (ho : o.op = .call { callee := .builtin .copy, args := #[d, s], argTypes := #[47, 47] }) (g off dLen dCap sLen sCap : Nat) (Ad As : Option Addr) (hd : a.eval d = .slice Ad dLen dCap) (hs : a.eval s = .slice As sLen sCap)
    (C : List Nat) (hrow : RowA w g C) (hC : C.length = 8) (xs : List Nat) (B : Nat) (hx : Has w B As sLen (uv xs)) (hle : sLen ≤ dLen) (hAd : 0 < sLen → Ad = some ⟨g, off, none⟩) (hfit : off + sLen ≤ 8)
    (h : ∀ w', RowA w' g (C.take off ++ (xs ++ C.drop (off + sLen))) → w.grownBy w' (some g) → wpList Tryd.prog ops Q rest (a.put o.dst (goInt sLen)) w') : wpList Tryd.prog ops Q (o :: rest) a w := by
  have hxl : xs.length = sLen := by have := hx.1; rwa [uv_length] at this
  by_cases h0 : sLen = 0
  · subst h0
    obtain rfl : xs = [] := List.eq_nil_of_length_eq_zero hxl
    refine wpList_copy_nothing hg d s _ _ ho 22 tyU16s sizeU16 _ _ _ _ _ _ hd hs (by simp [Nat.min_def]) ?_
    exact h w (by simpa using hrow) ⟨rfl, rfl, rfl, Nat.le_refl _, fun _ _ _ => rfl⟩
  · obtain ⟨b, o2, rfl, hb, hc⟩ := hx.2 (by omega)
    obtain rfl := hAd (by omega)
    refine wpList_copy_own hg d s _ _ ho 22 tyU16s sizeU16 g off dLen dCap ⟨b, o2, none⟩ sLen sCap hd hs (av C) _ hrow (uv xs) (by rw [uv_length, hxl]; simp [Nat.min_def]; omega) ?_ (by rw [uv_length, hxl, av_size, hC]; exact hfit) (uv_one _) ?_
    · intro j v hj
      have hadd : (⟨b, o2, none⟩ : Addr).add j = ⟨b, o2 + j, none⟩ := by unfold Addr.add; split <;> simp_all
      have hjl := (List.getElem?_eq_some_iff.1 hj).1
      rw [hadd, hc j hjl, ← hj, List.getElem?_eq_getElem hjl]
    · have hval : ((av C).toList.take off ++ (uv xs ++ (av C).toList.drop (off + (uv xs).length))).toArray = av (C.take off ++ (xs ++ C.drop (off + sLen))) := by
        rw [uv_length, hxl]
        simp [av, uv, List.map_take, List.map_drop]
      rw [hval, uv_length, hxl]
      exact h _ (setRow_heap w g (av C) _ _ _ hrow) (grown_setRow w g _)

theorem gap_list (a : List Nat) (ha : a.length = 8) (c m : Nat) (hm : m ≤ c) (hc : c ≤ 8) (C : List Nat) (hC : C = (zerosN 8).take 0 ++ (a.take m ++ (zerosN 8).drop (0 + m))) :
    C.take (8 - (c - m)) ++ ((a.take c).drop m ++ C.drop (8 - (c - m) + (c - m))) = a.take m ++ (zerosN (8 - c) ++ (a.take c).drop m) := by
  have hz : (zerosN 8).drop m = zerosN (8 - m) := by unfold zerosN; rw [List.drop_replicate]
  have h1 : C = a.take m ++ zerosN (8 - m) := by rw [hC, List.take_zero, List.nil_append, Nat.zero_add, hz]
  have h3 : (a.take m).length = m := by rw [List.length_take, ha]; omega
  have h2 : C.length = 8 := by rw [h1, List.length_append, h3]; unfold zerosN; rw [List.length_replicate]; omega
  have h4 : C.drop (8 - (c - m) + (c - m)) = [] := List.drop_eq_nil_of_le (by omega)
  have h5 : C.take (8 - (c - m)) = a.take m ++ zerosN (8 - c) := by
    have h6 : (a.take m).take (8 - (c - m)) = a.take m := List.take_of_length_le (by omega)
    have h7 : (zerosN (8 - m)).take (8 - (c - m) - m) = zerosN (8 - c) := by
      unfold zerosN
      rw [List.take_replicate]
      congr 1
      omega
    rw [h1, List.take_append, h6, h3, h7]
  rw [h4, h5, List.append_nil, List.append_assoc]

set_option maxRecDepth 20000 in
set_option maxHeartbeats 4000000 in
theorem gap_any (a : List Nat) (ha : a.length = 8) (c m : Nat) (hm : m ≤ c) (hc : c ≤ 8) (w : World) :
    Calls Tryd.prog 19 #[.agg (av a), .int .i64 (c : Int), .int .i64 (m : Int)] w fun e w' => e = .returned (.agg (av (a.take m ++ (zerosN (8 - c) ++ (a.take c).drop m)))) ∧ Below w.heap.size w w' := by
  have HAL := Lib.hid ha
  clear ha
  go_enter Tryd.func19, Tryd.ntmps19
  go_wp2_with (first
    | (refine wpList_box_arr _ rfl 3 rfl _ _ rfl _ (av a) (by exact rfl) (by exact rfl) ?_; intro W1 ga hga hla hA hG; have hb1 := below_row0 (Below.refl w.heap.size w) hG (Nat.le_refl _))
    | (refine wpList_alloc_arr _ rfl 6 rfl _ rfl _ zeroA8 ?_; intro W2 gr hgr hlr hR hG2; have hA2 := hA.grown0 hG2; have hb2 := below_row0 hb1 hG2 (Nat.le_refl _))
    | (refine wpList_alloc_arr _ rfl 7 rfl _ rfl _ zeroA8 ?_; intro W3 gs hgs hls hS hG3; have hA3 : RowA W3 ga a := hA2.grown0 hG3; have hR3 : RowA W3 gr (zerosN 8) := hR.grown0 hG3; have hb3 := below_row0 hb2 hG3 (Nat.le_refl _)))
  have hS3 : RowA W3 gs (zerosN 8) := hS
  have n1 : ga ≠ gs := by have := hA2.lt; omega
  have n2 : gr ≠ gs := by have := hR.lt; omega
  have n3 : ga ≠ gr := by have := hA.lt; omega
  have hws : w.heap.size ≤ gs := by have := hb2.size; omega
  have hwr : w.heap.size ≤ gr := by have := hb1.size; omega
  have HB3 := Lib.hid hb3
  have hs1 := fun W => run_slice_arr (P := Tryd.prog) 23 22 8 gs 0 8 tyA8 sizeU16 none none (.inr ⟨rfl, rfl⟩) (.inr ⟨rfl, rfl⟩) (by omega) (by omega) W
  have hs2 := fun W => run_slice_arr (P := Tryd.prog) 23 22 8 ga 0 m tyA8 sizeU16 none (some (.int .i64 (m : Int))) (.inr ⟨rfl, rfl⟩) (.inl rfl) (by omega) (by omega) W
  simp only [if_neg (show ¬ 8 = 0 by omega), Nat.sub_zero] at hs1 hs2
  have e8 : (8 : Int) - ((c : Int) - (m : Int)) = ((8 - (c - m) : Nat) : Int) := by omega
  have hs3 := fun W => run_slice_arr (P := Tryd.prog) 23 22 8 gs (8 - (c - m)) 8 tyA8 sizeU16 (some (.int .i64 (8 - ((c : Int) - (m : Int))))) none (.inl (by rw [e8])) (.inr ⟨rfl, rfl⟩) (by omega) (by omega) W
  have hs4 := fun W => run_slice_arr (P := Tryd.prog) 23 22 8 ga m c tyA8 sizeU16 (some (.int .i64 (m : Int))) (some (.int .i64 (c : Int))) (.inl rfl) (.inl rfl) hm hc W
  simp only [show 8 - (8 - (c - m)) = c - m by omega] at hs3
  obtain ⟨A3, hA3e, hA30⟩ : ∃ A : Option Addr, A = some (if 8 = 8 - (c - m) then (⟨gs, 0, none⟩ : Addr) else ⟨gs, 8 - (c - m), none⟩) ∧ (0 < c - m → A = some ⟨gs, 8 - (c - m), none⟩) := ⟨_, rfl, fun h => by rw [if_neg (by omega)]⟩
  obtain ⟨A4, hA4e, hA40⟩ : ∃ A : Option Addr, A = some (if 8 = m then (⟨ga, 0, none⟩ : Addr) else ⟨ga, m, none⟩) ∧ (0 < c - m → A = some ⟨ga, m, none⟩) := ⟨_, rfl, fun h => by rw [if_neg (by omega)]⟩
  rw [← hA3e] at hs3
  rw [← hA4e] at hs4
  have HCM := Lib.hid (And.intro hm hc)
  have HA3 := Lib.hid hA30
  have HA4 := Lib.hid hA40
  clear hA3e hA4e e8 hb1 hb2 hb3 hG hG2 hG3 hA hA2 hR hS hA30 hA40
  go_still_tail 3, (by kernel_rfl)
  change wpList _ _ _ _ _ (World.drew _)
  have hx1 : Has (World.drew W3) W3.heap.size (some ⟨ga, 0, none⟩) m (uv (a.take m)) := by
    have := a8_cut (World.drew W3) ga a hA3 HAL.out 0 m (by have := HCM.out; omega) W3.heap.size hA3.lt (some ⟨ga, 0, none⟩) (fun _ => rfl)
    rwa [List.drop_zero] at this
  have hm8 : m ≤ 8 := by have := HCM.out; omega
  go_wp2_with (refine wpList_copy_a8 _ rfl _ _ rfl gs 0 8 8 m 8 (some ⟨gs, 0, none⟩) (some ⟨ga, 0, none⟩) (by exact rfl) (by exact rfl) (zerosN 8) (show RowA (World.drew W3) gs _ from hS3) rfl (a.take m) _ hx1 hm8 (fun _ => rfl) (by omega) ?_; intro W4 hS4 hG4)
  have hA4 : RowA W4 ga a := Row.grown (show RowA (World.drew W3) ga a from hA3) hG4 n1
  have hR4 : RowA W4 gr (zerosN 8) := Row.grown (show RowA (World.drew W3) gr (zerosN 8) from hR3) hG4 n2
  have hb4 := below_row (HB3.out.drew) hG4 (Nat.le_refl _) hws
  have HB4 := Lib.hid hb4
  clear hG4 hb4 hA3 hR3 hS3 hx1
  obtain ⟨C, hC⟩ : ∃ C, C = (zerosN 8).take 0 ++ (a.take m ++ (zerosN 8).drop (0 + m)) := ⟨_, rfl⟩
  rw [← hC] at hS4
  have hC8 : C.length = 8 := by rw [hC]; simp [zerosN, HAL.out]; omega
  have HC := Lib.hid hC
  have HC8 := Lib.hid hC8
  clear hC hC8
  have hw1 : IntKind.i64.wrap ((c : Int) - (m : Int)) = (c : Int) - (m : Int) := by have := HCM.out; rw [IntKind.wrap_i64]; omega
  have hw2 : IntKind.i64.wrap (8 - ((c : Int) - (m : Int))) = 8 - ((c : Int) - (m : Int)) := by have := HCM.out; rw [IntKind.wrap_i64]; omega
  go_still_tail 8, (by kernel_rfl)
  clear hw1 hw2
  change wpList _ _ _ _ _ (World.drew _)
  have hx2 : Has (World.drew W4) W4.heap.size A4 (c - m) (uv ((a.take c).drop m)) := by
    have := a8_cut (World.drew W4) ga a hA4 HAL.out m (c - m) (by have := HCM.out; omega) W4.heap.size hA4.lt A4 HA4.out
    rwa [show (a.drop m).take (c - m) = (a.take c).drop m by rw [List.drop_take]] at this
  obtain ⟨F, hF⟩ : ∃ F, F = C.take (8 - (c - m)) ++ ((a.take c).drop m ++ C.drop (8 - (c - m) + (c - m))) := ⟨_, rfl⟩
  have hFF : F = a.take m ++ (zerosN (8 - c) ++ (a.take c).drop m) := by
    rw [hF]
    exact gap_list a HAL.out c m HCM.out.1 HCM.out.2 C HC.out
  have hF8 : F.length = 8 := by
    have := HCM.out
    rw [hFF]
    simp [zerosN, HAL.out]
    omega
  have HFF := Lib.hid hFF
  have HF8 := Lib.hid hF8
  clear hFF hF8
  go_wp2_with (first
    | (refine wpList_copy_a8 _ rfl _ _ rfl gs (8 - (c - m)) (c - m) (c - m) (c - m) (8 - m) A3 A4 (by exact rfl) (by exact rfl) C (show RowA (World.drew W4) gs _ from hS4) HC8.out ((a.take c).drop m) _ hx2 (Nat.le_refl _) HA3.out (by have := HCM.out; omega) ?_; intro W5 hS5 hG5; rw [← hF] at hS5; have hR5 := Row.grown (show RowA (World.drew W4) gr (zerosN 8) from hR4) hG5 n2; have hb5 := below_row (HB4.out.drew) hG5 (Nat.le_refl _) hws)
    | (refine wpList_load_arr _ rfl _ _ rfl gs (by exact rfl) _ (av F) hS5 8 _ tyA8 (sizeA F HF8.out) ?_)
    | (refine wpList_store_arr _ rfl rfl _ _ _ rfl gr (by exact rfl) (av F) (by exact rfl) _ _ hR5 (sizeA F HF8.out) (by rw [av_size, av_size, HF8.out]; rfl) (av_one F) ?_; intro W6 hR6 hG6; have hb6 := below_row hb5 hG6 (Nat.le_refl _) hwr))
  refine ret_cell_arr 6 _ rfl gr (by exact rfl) _ (av F) hR6 8 _ tyA8 (sizeA F HF8.out) (by exact rfl) ?_
  exact ⟨by rw [HFF.out], hb6⟩

end Go.Proofs.YthihfhmclmmadaaDoor
