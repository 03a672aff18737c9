/-
Contract of Parse of the reference of layer 11.
Digits laid in front of a string: no function of the program.
-/
import Derived.Test.YtpccpgihldpiiaaGreatDoorC09
import Derived.Test.YtpccpgihldpiiaaGreatDoorC03
namespace Go.Proofs.YtpccpgihldpiiaaGreatDoor
section
open Go.RowKit

/-- An address as cells: zeros where there is none. -/
def arr6 (o : Option (List Nat)) : List Nat := o.getD (zerosN 8)
theorem zeros8_length : (zerosN 8).length = 8 := rfl
theorem dbl_bound : ∀ (l : List UInt8) (i k : Nat), dblGo l i = some k → i ≤ k ∧ k + 2 ≤ i + l.length
  | [], _, _, h => by cases h
  | [_], _, _, h => by cases h
  | a :: b :: r, i, k, h => by
    rw [dblGo] at h
    split at h
    · simp only [Option.some.injEq] at h; subst h; simp
    · have := dbl_bound (b :: r) (i + 1) k h
      simp at this ⊢; omega
theorem own_slice6 {w : World} {base n : Nat} {v : Value} {g : List Nat} (h : w.ownsRow base 24 1 v n (uv g)) : ∃ A c, v = .slice A n c ∧ n ≤ c ∧ ∀ j, j < n → ∃ gb, A = some ⟨gb, 0, none⟩ ∧ base ≤ gb ∧ gb < w.heap.size ∧ w.cell? ⟨gb, j, none⟩ = some (.int .u16 ((g.getD j 0 : Nat) : Int)) := by
  have hx := h
  rcases h.2 with ⟨rfl, h0⟩ | ⟨gb, cap, cur, rfl, hb, hg, hnc, _⟩
  · subst h0
    exact ⟨none, 0, rfl, Nat.le_refl _, fun j hj => by omega⟩
  · refine ⟨_, cap, rfl, hnc, fun j hj => ⟨gb, rfl, hb, ?_, ?_⟩⟩
    · exact (Array.getElem?_eq_some_iff.1 hg).1
    · obtain ⟨g', cap', hv, _, hlt, hc⟩ := owns_cell hx (by omega)
      injection hv with hv1 hv2 hv3
      injection hv1 with hv1
      injection hv1 with e1 _ _
      subst e1
      have hl : (uv g).length = n := by simpa using hx.1
      have := hc j (by omega)
      rw [this]
      rw [uv_length] at hl
      simp [uv, List.getD_eq_getElem?_getD, List.getElem?_eq_getElem (show j < g.length by omega)]
/-- What the loops keep. -/
structure PA (w W2 w3 wr : World) (a1 r1 : Nat) (C : List Nat) : Prop where
  ra : RowA wr a1 C
  rr : RowA wr r1 (zerosN 8)
  len : C.length = 8
  old : ∀ gb, W2.heap.size ≤ gb → gb < w3.heap.size → wr.heap[gb]? = w3.heap[gb]?
  bel : Below w.heap.size w wr
theorem PA.cell {w W2 w3 wr : World} {a1 r1 : Nat} {C : List Nat} (h : PA w W2 w3 wr a1 r1 C) {gb j : Nat} {v : Value} (h1 : W2.heap.size ≤ gb) (h2 : gb < w3.heap.size) (hc : w3.cell? ⟨gb, j, none⟩ = some v) : wr.cell? ⟨gb, j, none⟩ = some v := by
  rw [← hc]
  unfold World.cell?
  rw [h.old gb h1 h2]
theorem PA.set {w W2 w3 wr w' : World} {a1 r1 k x : Nat} {C : List Nat} (h : PA w W2 w3 wr a1 r1 C) (ha : a1 < W2.heap.size) (hne : r1 ≠ a1) (hw : w.heap.size ≤ a1)
    (hr : Row w' a1 25 ((av C).setIfInBounds k (.int .u16 (x : Int)))) (hg : wr.grownBy w' (some a1)) : PA w W2 w3 w' a1 r1 (C.set k x) := by
  refine ⟨?_, h.rr.grown hg hne, by simp [h.len], fun gb h1 h2 => ?_, below_row h.bel hg (Nat.le_refl _) hw⟩
  · rw [av_set] at hr; exact hr
  · have hlt : gb < wr.heap.size := by
      have := h.old gb h1 h2
      rw [Array.getElem?_eq_getElem h2] at this
      exact (Array.getElem?_eq_some_iff.1 this).1
    rw [hg.block gb hlt (fun e => by injection e with e; omega)]
    exact h.old gb h1 h2
theorem grp_len : ∀ (P : List (List UInt8)) (last : Bool) (g : List Nat), grpGo P last = some g → g.length ≤ P.length + 1
  | [], _, g, h => by
    rw [grpGo] at h
    simp only [Option.some.injEq] at h
    subst h; simp
  | [x], last, g, h => by
    rw [grpGo_one] at h
    split at h
    · simp only [Option.some.injEq] at h; subst h; simp
    · split at h
      · simp only [Option.some.injEq] at h; subst h; simp
      · cases h
  | x :: y :: r, last, g, h => by
    rw [grpGo] at h
    split at h
    · cases h
    · cases hr : grpGo (y :: r) last with
      | none => rw [hr] at h; cases h
      | some m =>
        rw [hr] at h
        simp only [Option.some.injEq] at h
        have := grp_len (y :: r) last m hr
        subst h
        simp at this ⊢; omega
theorem groups_len {l : List UInt8} {last : Bool} {g : List Nat} (h : groupsL l last = some g) : g.length ≤ l.length + 2 := by
  unfold groupsL at h
  split at h
  · simp only [Option.some.injEq] at h; subst h; simp
  · have := grp_len _ _ _ h
    have := splitL_length 58 l
    omega
theorem PA.more {w W2 w3 w4 wr : World} {a1 r1 : Nat} {C : List Nat} (_h : PA w W2 w3 wr a1 r1 C) (_hb : Below w3.heap.size w3 w4) (_he : wr = w4) : True := trivial

set_option maxRecDepth 20000 in
set_option maxHeartbeats 8000000 in
theorem refParse6_any (s : ByteArray) (w : World) (hs : s.size ≤ 1000000000) :
    Calls Tryz.prog 51 #[.string s] w fun e w' => e = .returned (.tuple #[.agg (av (arr6 (parse6 (ls s)))), .bool (parse6 (ls s)).isSome]) ∧ Below w.heap.size w w' := by
  have hdc := fun W => refDouble_any s W hs
  have HPD : Hid (parse6 (ls s) = match dblGo (ls s) 0 with
      | none => match groupsL (ls s) true with
        | some g => if g.length = 8 then some g else none
        | none => none
      | some k => match groupsL ((ls s).take k) false with
        | none => none
        | some g => match groupsL ((ls s).drop (k + 2)) true with
          | none => none
          | some h => if g.length + h.length ≤ 7 then some (g ++ (zerosN (8 - g.length - h.length) ++ h)) else none) := Lib.hid rfl
  unfold dblV at hdc
  go_enter Tryz.func51, Tryz.ntmps51
  go_wp2_with (first
    | (refine wpList_alloc_arr _ rfl 2 rfl _ rfl _ zeroA8 ?_; intro W1 r1 hr1 hl1 hR1 hG1)
    | (refine wpList_alloc_arr _ rfl 4 rfl _ rfl _ zeroA8 ?_; intro W2 a1 ha1 hl2 hA1 hG2))
  have hb1 := below_row0 (Below.refl w.heap.size w) hG1 (Nat.le_refl _)
  have hb2 := below_row0 hb1 hG2 (Nat.le_refl _)
  have hR2 : RowA W2 r1 (zerosN 8) := hR1.grown0 hG2
  have hA2 : RowA W2 a1 (zerosN 8) := hA1
  have hne : r1 ≠ a1 := by omega
  have haw : w.heap.size ≤ a1 := Nat.le_trans hb1.size ha1
  have hrl : r1 < W2.heap.size := hR2.lt
  have HB2 := Lib.hid hb2
  clear hR1 hG1 hA1 hG2 hb1 hb2 ha1 hl1
  refine (hdc _).mono ?_
  rintro r w' ⟨rfl, rfl⟩
  clear hdc
  cases hdb : dblGo (ls s) 0 with
  | none =>
    rw [hdb] at HPD
    simp only at HPD ⊢
    have c1 := refGroups_any s true W2 hs
    generalize groupsL (ls s) true = G at *
    clear hdb
    go_wp2_with fail
    refine c1.mono ?_
    rintro e w3 ⟨v, rfl, hown, hb3⟩
    obtain ⟨A, c, rfl, hnc, hcells⟩ := own_slice6 hown
    have hA3 := hA2.below hb3 hl2
    have hR3 := hR2.below hb3 hrl
    have HB3 := Lib.hid (HB2.out.trans (hb3.mono HB2.out.size))
    clear c1 hown
    by_cases h8 : ∃ g, G = some g ∧ g.length = 8
    · obtain ⟨g, rfl, hg8⟩ := h8
      have HP : Hid (parse6 (ls s) = some g) := by show _ = _; rw [HPD.out]; simp only; rw [if_pos hg8]
      have hPA : PA w W2 w3 w3 a1 r1 (zerosN 8) := ⟨hA3, hR3, rfl, fun _ _ _ => rfl, HB3.out⟩
      simp only [Option.getD_some, Option.isSome_some] at hnc hcells ⊢
      rw [hg8] at hnc hcells ⊢
      have HG8 := Lib.hid hg8
      have HPA := Lib.hid hPA
      clear hPA hA3 hR3 hg8
      go_wp2_with fail
      go_loopw [8] (fun i wr => ∃ (k : Nat) (C : List Nat), k ≤ 8 ∧ i = .int .i64 k ∧ Hid (C = g.take k ++ zerosN (8 - k)) ∧ Hid (PA w W2 w3 wr a1 r1 C)) (fun i _ => 8 - (intOf i).toNat)
      case atStart => exact ⟨0, zerosN 8, Nat.zero_le _, rfl, Lib.hid (by simp), HPA⟩
      case round =>
        obtain ⟨k, C, hk, rfl, HC, HQ⟩ := hrel
        by_cases hlt : k < 8
        · obtain ⟨gb, hAe, hg1, hg2, hgc⟩ := hcells k hlt
          subst hAe
          have hc := HQ.out.cell hg1 hg2 hgc
          have hrow := HQ.out.ra
          have hkC : k < (av C).size := by rw [av_size, HQ.out.len]; exact hlt
          have HSET : Hid (C.set k (g.getD k 0) = g.take (k + 1) ++ zerosN (8 - (k + 1))) := by
            show _ = _
            rw [HC.out, set_step g k 8 (by rw [HG8.out]; exact hlt) hlt]
          generalize g.getD k 0 = x at *
          clear hgc
          go_wp2_with (refine wpList_store_cell _ rfl rfl _ _ _ rfl a1 k (by exact rfl) _ (by exact rfl) (by exact rfl) _ (av C) hrow hkC sizeU16 ?_; intro w4 hr4 hg4)
          go_roundw
          case rel => exact ⟨k + 1, C.set k x, by omega, by go_num, HSET, Lib.hid (HQ.out.set hl2 hne haw hr4 hg4)⟩
          case measure => simp [intOf]; omega
        · obtain rfl : k = 8 := by omega
          have HCg : Hid (C = g) := by show _ = _; rw [HC.out, List.take_of_length_le (by rw [HG8.out]; exact Nat.le_refl _)]; simp [zerosN]
          have hrow := HQ.out.ra
          have hrr := HQ.out.rr
          have hcl := HQ.out.len
          go_wp2_with (first
            | (refine wpList_load_arr _ rfl _ _ rfl a1 (by exact rfl) _ (av C) hrow 8 _ tyA8 (sizeA C hcl) ?_)
            | (refine wpList_store_arr _ rfl rfl _ _ _ rfl r1 (by exact rfl) (av C) (by exact rfl) _ _ hrr (sizeA C hcl) (by rw [av_size, av_size, hcl]; rfl) (av_one C) ?_; intro w5 hr5 hg5))
          refine ret_a8 _ _ rfl r1 rfl C hr5 hcl _ rfl rfl ?_
          refine ⟨?_, below_row HQ.out.bel hg5 (Nat.le_refl _) (by have := HB2.out.size; omega)⟩
          rw [HP.out, HCg.out]; rfl
    · have HP : Hid (parse6 (ls s) = none) := by
        show _ = _
        rw [HPD.out]
        cases G with
        | none => rfl
        | some g => simp only; rw [if_neg (fun h => h8 ⟨g, rfl, h⟩)]
      have hz := zeros8_length
      cases G with
      | none =>
        clear h8
        go_wp2_with (first
          | (refine wpList_load_arr _ rfl _ _ rfl a1 (by exact rfl) _ (av (zerosN 8)) hA3 8 _ tyA8 (sizeA _ rfl) ?_)
          | (refine wpList_store_arr _ rfl rfl _ _ _ rfl r1 (by exact rfl) (av (zerosN 8)) (by exact rfl) _ _ hR3 (sizeA _ rfl) rfl (av_one _) ?_; intro w5 hr5 hg5))
        refine ret_a8 _ _ rfl r1 rfl (zerosN 8) hr5 rfl _ rfl rfl ?_
        refine ⟨?_, below_row HB3.out hg5 (Nat.le_refl _) (by have := HB2.out.size; omega)⟩
        rw [HP.out]; rfl
      | some g =>
        have hg8 : ((g.length : Int) != 8) = true := by simp; intro h; exact h8 ⟨g, rfl, by omega⟩
        simp only [Option.getD_some, Option.isSome_some]
        obtain ⟨gl, hgl⟩ : ∃ n : Nat, n = g.length := ⟨_, rfl⟩
        rw [← hgl] at hg8 ⊢
        clear h8 hcells hnc hgl
        go_wp2_with (first
          | (refine wpList_load_arr _ rfl _ _ rfl a1 (by exact rfl) _ (av (zerosN 8)) hA3 8 _ tyA8 (sizeA _ rfl) ?_)
          | (refine wpList_store_arr _ rfl rfl _ _ _ rfl r1 (by exact rfl) (av (zerosN 8)) (by exact rfl) _ _ hR3 (sizeA _ rfl) rfl (av_one _) ?_; intro w5 hr5 hg5))
        refine ret_a8 _ _ rfl r1 rfl (zerosN 8) hr5 rfl _ rfl rfl ?_
        refine ⟨?_, below_row HB3.out hg5 (Nat.le_refl _) (by have := HB2.out.size; omega)⟩
        rw [HP.out]; rfl
  | some i =>
    have hbd := dbl_bound (ls s) 0 i hdb
    rw [ls_length] at hbd
    rw [hdb] at HPD
    simp only at HPD ⊢
    have hi2 : i + 2 ≤ s.size := by omega
    have hil : (i : Int) ≤ (s.size : Int) := by omega
    have hineg : ¬ (i : Int) < 0 := by omega
    obtain ⟨j, hj⟩ : ∃ j, j = i + 2 := ⟨_, rfl⟩
    have hji : (i : Int) + 2 = (j : Int) := by omega
    have hjs : j ≤ s.size := by omega
    have c1 := fun W => refGroups_any (s.extract 0 i) false W (by rw [ByteArray.size_extract]; omega)
    have c2 := fun W => refGroups_any (s.extract j s.size) true W (by rw [ByteArray.size_extract]; omega)
    have l1 : ls (s.extract 0 i) = (ls s).take i := by rw [sub_extract, ls_bs]; unfold sub; simp
    have l2 : ls (s.extract j s.size) = (ls s).drop (i + 2) := by
      rw [sub_extract, ls_bs, hj]; unfold sub
      exact List.take_of_length_le (by rw [List.length_drop, ls_length]; omega)
    rw [l1] at c1
    rw [l2] at c2
    have HGL : Hid (∀ g, groupsL ((ls s).take i) false = some g → g.length ≤ 1000000002) := Lib.hid fun g hg => by have := groups_len hg; rw [List.length_take, ls_length] at this; omega
    have HHL : Hid (∀ g, groupsL ((ls s).drop (i + 2)) true = some g → g.length ≤ 1000000002) := Lib.hid fun g hg => by have := groups_len hg; rw [List.length_drop, ls_length] at this; omega
    generalize groupsL ((ls s).take i) false = G at *
    generalize groupsL ((ls s).drop (i + 2)) true = H at *
    clear hdb hbd l1 l2 hj
    go_wp2_with fail
    refine (c1 _).mono ?_
    rintro e w3 ⟨v, rfl, hown, hb3⟩
    obtain ⟨A, c, rfl, hnc, hcells⟩ := own_slice6 hown
    have hA3 := hA2.below hb3 hl2
    have hR3 := hR2.below hb3 hrl
    have hs23 := hb3.size
    clear c1 hown
    go_wp2_with fail
    refine (c2 _).mono ?_
    rintro e w4 ⟨v, rfl, hown, hb4⟩
    obtain ⟨A', c', rfl, hnc', hcells'⟩ := own_slice6 hown
    have hA4 := hA3.below hb4 (Nat.lt_of_lt_of_le hl2 hs23)
    have hR4 := hR3.below hb4 (Nat.lt_of_lt_of_le hrl hs23)
    have hs34 := hb4.size
    have HCG : Hid (∀ j, j < (G.getD []).length → ∃ gb, A = some ⟨gb, 0, none⟩ ∧ W2.heap.size ≤ gb ∧ gb < w4.heap.size ∧ w4.cell? ⟨gb, j, none⟩ = some (.int .u16 (((G.getD []).getD j 0 : Nat) : Int))) := by
      refine Lib.hid fun j hj => ?_
      obtain ⟨gb, e1, e2, e3, e4⟩ := hcells j hj
      exact ⟨gb, e1, e2, by omega, (hb4.cell (p := ⟨gb, j, none⟩) e3).trans e4⟩
    have HCH : Hid (∀ j, j < (H.getD []).length → ∃ gb, A' = some ⟨gb, 0, none⟩ ∧ W2.heap.size ≤ gb ∧ gb < w4.heap.size ∧ w4.cell? ⟨gb, j, none⟩ = some (.int .u16 (((H.getD []).getD j 0 : Nat) : Int))) := by
      refine Lib.hid fun j hj => ?_
      obtain ⟨gb, e1, e2, e3, e4⟩ := hcells' j hj
      exact ⟨gb, e1, by omega, e3, e4⟩
    have HB4 := Lib.hid (HB2.out.trans ((hb3.trans (hb4.mono hb3.size)).mono HB2.out.size))
    clear c2 hown hcells hcells' hA2 hR2 hA3 hR3 hb3 hb4
    by_cases h8 : ∃ g h, G = some g ∧ H = some h ∧ g.length + h.length ≤ 7
    · obtain ⟨g, h, rfl, rfl, hgh⟩ := h8
      have HP : Hid (parse6 (ls s) = some (g ++ (zerosN (8 - g.length - h.length) ++ h))) := by show _ = _; rw [HPD.out]; simp only; rw [if_pos hgh]
      have hPA : PA w W2 w4 w4 a1 r1 (zerosN 8) := ⟨hA4, hR4, rfl, fun _ _ _ => rfl, HB4.out⟩
      simp only [Option.getD_some, Option.isSome_some] at hnc hnc' HCG HCH ⊢
      obtain ⟨n, hn⟩ : ∃ n : Nat, n = g.length := ⟨_, rfl⟩
      obtain ⟨m, hm⟩ : ∃ m : Nat, m = h.length := ⟨_, rfl⟩
      rw [← hn] at hnc HCG ⊢
      rw [← hm] at hnc' HCH ⊢
      have hnm : n + m ≤ 7 := by omega
      have hdec : decide ((7 : Int) < (n : Int) + (m : Int)) = false := decide_eq_false (by omega)
      have HN := Lib.hid hn
      have HM := Lib.hid hm
      have HPA := Lib.hid hPA
      clear hPA hA4 hR4 hgh hn hm
      go_wp2_with fail
      go_loopw [13] (fun i wr => ∃ (k : Nat) (C : List Nat), k ≤ n ∧ i = .int .i64 k ∧ Hid (C = g.take k ++ zerosN (8 - k)) ∧ Hid (PA w W2 w4 wr a1 r1 C)) (fun i _ => n - (intOf i).toNat)
      case atStart => exact ⟨0, zerosN 8, Nat.zero_le _, rfl, Lib.hid (by simp), HPA⟩
      case round =>
        obtain ⟨k, C, hk, rfl, HC, HQ⟩ := hrel
        by_cases hlt : k < n
        · obtain ⟨gb, hAe, hg1, hg2, hgc⟩ := HCG.out k hlt
          subst hAe
          have hc := HQ.out.cell hg1 hg2 hgc
          have hrow := HQ.out.ra
          have hk8 : k < 8 := by omega
          have hkC : k < (av C).size := by rw [av_size, HQ.out.len]; exact hk8
          have HSET : Hid (C.set k (g.getD k 0) = g.take (k + 1) ++ zerosN (8 - (k + 1))) := by
            show _ = _
            rw [HC.out, set_step g k 8 (by rw [← HN.out]; exact hlt) hk8]
          generalize g.getD k 0 = x at *
          clear hgc
          go_wp2_with (refine wpList_store_cell _ rfl rfl _ _ _ rfl a1 k (by exact rfl) _ (by exact rfl) (by exact rfl) _ (av C) hrow hkC sizeU16 ?_; intro w5 hr5 hg5)
          go_roundw
          case rel => exact ⟨k + 1, C.set k x, by omega, by go_num, HSET, Lib.hid (HQ.out.set hl2 hne haw hr5 hg5)⟩
          case measure => simp [intOf]; omega
        · obtain rfl : k = n := by omega
          have HC0 : Hid (C = g ++ zerosN (8 - k)) := by show _ = _; rw [HC.out, List.take_of_length_le (by rw [← HN.out]; exact Nat.le_refl _)]
          clear HC
          go_wp2_with fail
          go_loopw [14] (fun i wr => ∃ (q : Nat) (C : List Nat), q ≤ m ∧ i = .int .i64 q ∧ Hid (C = (g ++ zerosN (8 - k - m)) ++ (h.take q ++ zerosN (m - q))) ∧ Hid (PA w W2 w4 wr a1 r1 C)) (fun i _ => m - (intOf i).toNat)
          case atStart =>
            refine ⟨0, C, Nat.zero_le _, rfl, Lib.hid ?_, HQ⟩
            rw [HC0.out, List.append_assoc]
            congr 1
            simp only [List.take_zero, List.nil_append, zerosN, List.replicate_append_replicate]
            congr 1
            omega
          case round =>
            obtain ⟨q, D, hq, rfl, HD, HQ2⟩ := hrel
            by_cases hqlt : q < m
            · obtain ⟨gb, hAe, hg1, hg2, hgc⟩ := HCH.out q hqlt
              subst hAe
              have hc := HQ2.out.cell hg1 hg2 hgc
              have hrow := HQ2.out.ra
              obtain ⟨t, ht⟩ : ∃ t, t = 8 - m + q := ⟨_, rfl⟩
              have ht1 : (8 : Int) - (m : Int) + (q : Int) = (t : Int) := by omega
              have ht8 : t < 8 := by omega
              have hm8 : m ≤ 8 := by omega
              have hkC : t < (av D).size := by rw [av_size, HQ2.out.len]; exact ht8
              have HSET : Hid (D.set t (h.getD q 0) = (g ++ zerosN (8 - k - m)) ++ (h.take (q + 1) ++ zerosN (m - (q + 1)))) := by
                show _ = _
                have hpl : (g ++ zerosN (8 - k - m)).length + q = t := by simp [zerosN]; have := HN.out; omega
                rw [HD.out, ← hpl, set_step2 _ h q m (by rw [← HM.out]; exact hqlt) hqlt]
              generalize h.getD q 0 = x at *
              clear hgc ht
              go_wp2_with (refine wpList_store_cell _ rfl rfl _ _ _ rfl a1 t (by exact rfl) _ (by exact rfl) (by exact rfl) _ (av D) hrow hkC sizeU16 ?_; intro w6 hr6 hg6)
              go_roundw
              case rel => exact ⟨q + 1, D.set t x, by omega, by go_num, HSET, Lib.hid (HQ2.out.set hl2 hne haw hr6 hg6)⟩
              case measure => simp [intOf]; omega
            · obtain rfl : q = m := by omega
              have HCg : Hid (D = g ++ (zerosN (8 - g.length - h.length) ++ h)) := by
                show _ = _
                rw [HD.out, List.take_of_length_le (by rw [← HM.out]; exact Nat.le_refl _), Nat.sub_self, HN.out, HM.out]
                simp [zerosN]
              have hrow := HQ2.out.ra
              have hrr := HQ2.out.rr
              have hcl := HQ2.out.len
              go_wp2_with (first
                | (refine wpList_load_arr _ rfl _ _ rfl a1 (by exact rfl) _ (av D) hrow 8 _ tyA8 (sizeA D hcl) ?_)
                | (refine wpList_store_arr _ rfl rfl _ _ _ rfl r1 (by exact rfl) (av D) (by exact rfl) _ _ hrr (sizeA D hcl) (by rw [av_size, av_size, hcl]; rfl) (av_one D) ?_; intro w7 hr7 hg7))
              refine ret_a8 _ _ rfl r1 rfl D hr7 hcl _ rfl rfl ?_
              refine ⟨?_, below_row HQ2.out.bel hg7 (Nat.le_refl _) (by have := HB2.out.size; omega)⟩
              rw [HP.out, HCg.out]; rfl
    · have HP : Hid (parse6 (ls s) = none) := by
        show _ = _
        rw [HPD.out]
        cases G with
        | none => rfl
        | some g => cases H with
          | none => rfl
          | some h => simp only; rw [if_neg (fun hh => h8 ⟨g, h, rfl, rfl, hh⟩)]
      cases G with
      | none =>
        clear h8
        go_wp2_with (first
          | (refine wpList_load_arr _ rfl _ _ rfl a1 (by exact rfl) _ (av (zerosN 8)) hA4 8 _ tyA8 (sizeA _ rfl) ?_)
          | (refine wpList_store_arr _ rfl rfl _ _ _ rfl r1 (by exact rfl) (av (zerosN 8)) (by exact rfl) _ _ hR4 (sizeA _ rfl) rfl (av_one _) ?_; intro w5 hr5 hg5))
        refine ret_a8 _ _ rfl r1 rfl (zerosN 8) hr5 rfl _ rfl rfl ?_
        refine ⟨?_, below_row HB4.out hg5 (Nat.le_refl _) (by have := HB2.out.size; omega)⟩
        rw [HP.out]; rfl
      | some g =>
        cases H with
        | none =>
          clear h8
          go_wp2_with (first
            | (refine wpList_load_arr _ rfl _ _ rfl a1 (by exact rfl) _ (av (zerosN 8)) hA4 8 _ tyA8 (sizeA _ rfl) ?_)
            | (refine wpList_store_arr _ rfl rfl _ _ _ rfl r1 (by exact rfl) (av (zerosN 8)) (by exact rfl) _ _ hR4 (sizeA _ rfl) rfl (av_one _) ?_; intro w5 hr5 hg5))
          refine ret_a8 _ _ rfl r1 rfl (zerosN 8) hr5 rfl _ rfl rfl ?_
          refine ⟨?_, below_row HB4.out hg5 (Nat.le_refl _) (by have := HB2.out.size; omega)⟩
          rw [HP.out]; rfl
        | some h =>
          simp only [Option.getD_some, Option.isSome_some]
          obtain ⟨n, hn⟩ : ∃ n : Nat, n = g.length := ⟨_, rfl⟩
          obtain ⟨m, hm⟩ : ∃ m : Nat, m = h.length := ⟨_, rfl⟩
          have hgt : 7 < n + m := by
            rcases Nat.lt_or_ge 7 (n + m) with h1 | h1
            · exact h1
            · exact absurd ⟨g, h, rfl, rfl, by omega⟩ h8
          have hbn : n ≤ 1000000002 := by rw [hn]; exact HGL.out g rfl
          have hbm : m ≤ 1000000002 := by rw [hm]; exact HHL.out h rfl
          rw [← hn, ← hm]
          simp only [Option.getD_some] at hnc hnc'
          rw [← hn] at hnc
          rw [← hm] at hnc'
          clear h8 hn hm HCG HCH HGL HHL
          have hdec : decide ((7 : Int) < (n : Int) + (m : Int)) = true := decide_eq_true (by omega)
          go_wp2_with (first
            | (refine wpList_load_arr _ rfl _ _ rfl a1 (by exact rfl) _ (av (zerosN 8)) hA4 8 _ tyA8 (sizeA _ rfl) ?_)
            | (refine wpList_store_arr _ rfl rfl _ _ _ rfl r1 (by exact rfl) (av (zerosN 8)) (by exact rfl) _ _ hR4 (sizeA _ rfl) rfl (av_one _) ?_; intro w5 hr5 hg5))
          refine ret_a8 _ _ rfl r1 rfl (zerosN 8) hr5 rfl _ rfl rfl ?_
          refine ⟨?_, below_row HB4.out hg5 (Nat.le_refl _) (by have := HB2.out.size; omega)⟩
          rw [HP.out]; rfl
end

section
open Go.RowKit

def strE : Value → Nat
  | .string s => if s.size = 0 then 1 else 0
  | _ => 0
theorem hex_lit : ∀ r : Fin 16, (⟨#[48, 49, 50, 51, 52, 53, 54, 55, 56, 57, 97, 98, 99, 100, 101, 102]⟩ : ByteArray).extract r.val (r.val + 1) = bs [hexc r.val] := by decide +kernel
/-- How far the loop has come. -/
def Digs (b n m : Nat) (L : List UInt8) : Prop := (L = [] ∧ m = n) ∨ (L ≠ [] ∧ m = 0 ∧ L = digsB b n) ∨ (L ≠ [] ∧ 0 < m ∧ digsB b m ++ L = digsB b n)
theorem Digs.next {b n m : Nat} {L : List UInt8} (hb : 2 ≤ b) (hn : n < 1099511627776) (hm : m < 1099511627776) (h : Digs b n m L) (hc : 0 < m ∨ L = []) : Digs b n (m / b) (hexc (m % b) :: L) := by
  have key : digsB b m ++ L = digsB b n := by
    rcases h with ⟨h1, h2⟩ | ⟨h1, h2, h3⟩ | ⟨h1, h2, h3⟩
    · subst h1 h2; simp
    · rcases hc with hc | hc
      · omega
      · exact absurd hc h1
    · exact h3
  by_cases hs : m < b
  · refine .inr (.inl ⟨by simp, Nat.div_eq_of_lt hs, ?_⟩)
    rw [← key, digsB_small hs, Nat.mod_eq_of_lt hs]; rfl
  · refine .inr (.inr ⟨by simp, Nat.div_pos (by omega) (by omega), ?_⟩)
    rw [← key, digsB_step hb hm hs]; simp
theorem Digs.len {b n m : Nat} {L : List UInt8} (h : Digs b n m L) (hl : (digsB b n).length ≤ 11) : L.length ≤ 11 := by
  rcases h with ⟨h1, h2⟩ | ⟨h1, h2, h3⟩ | ⟨h1, h2, h3⟩
  · subst h1; simp
  · rw [h3]; exact hl
  · rw [← h3] at hl; simp at hl; omega
theorem Digs.fin {b n : Nat} {L : List UInt8} (h : Digs b n 0 L) (hL : L ≠ []) : L = digsB b n := by
  rcases h with ⟨h1, h2⟩ | ⟨h1, h2, h3⟩ | ⟨h1, h2, h3⟩
  · exact absurd h1 hL
  · exact h3
  · omega
theorem bs_empty (L : List UInt8) : ((bs L).toList == ([] : List UInt8)) = decide (L = []) := by
  rw [toList_ls, ls_bs]
  cases L <;> rfl
theorem bs_add (l m : List UInt8) : bs l ++ bs m = bs (l ++ m) := by
  apply ls_inj
  rw [ls_append, ls_bs, ls_bs, ls_bs]
end

end Go.Proofs.YtpccpgihldpiiaaGreatDoor
