/-
  Format of package directive.
-/
import Derived.Test.YtbpgkdhdooaigaaDiF
import Derived.Test.YtbpgkdhdooaigaaBldS
namespace Go.Proofs.Ytbpgkdhdooaigaa
open Go.RowKit Go.Shelf

/-! ### the text, step by step -/
theorem dirT_snoc : ∀ (l : List Dv) (d : Dv), l ≠ [] → dirT (l ++ [d]) = dirT l ++ [59, 32] ++ d.text
  | [], _, h => absurd rfl h
  | [a], d, _ => by
    show a.text ++ 59 :: 32 :: d.text = a.text ++ [59, 32] ++ d.text
    simp
  | a :: b :: r, d, _ => by
    have ih := dirT_snoc (b :: r) d (by simp)
    show a.text ++ 59 :: 32 :: dirT (b :: r ++ [d]) = a.text ++ 59 :: 32 :: dirT (b :: r) ++ [59, 32] ++ d.text
    rw [ih]
    simp
def preT (l : List Dv) : List UInt8 := if l.length = 0 then [] else dirT l ++ [59, 32]
theorem dirT_take {l : List Dv} {k : Nat} (h : k < l.length) : dirT (l.take (k + 1)) = preT (l.take k) ++ l[k].text := by
  rw [List.take_succ_eq_append_getElem h]
  unfold preT
  by_cases h0 : l.take k = []
  · rw [h0]
    rfl
  · rw [dirT_snoc _ _ h0, if_neg (fun e => h0 (List.length_eq_zero_iff.1 e))]
theorem valT_len (v : List UInt8) : (valT v).length ≤ 2 * v.length + 2 := by
  unfold valT
  split
  · omega
  · have := escL_len v
    rw [quoL]
    simp
    omega
theorem text_len (d : Dv) (h : d.name.length ≤ 1000000 ∧ d.value.length ≤ 1000000) : d.text.length ≤ 3000010 := by
  have := valT_len d.value
  unfold Dv.text
  split <;> simp <;> omega
theorem dirT_len {l : List Dv} (hS : SmDv l) : ∀ k, k ≤ l.length → (dirT (l.take k)).length ≤ k * 3000020
  | 0, _ => by simp [dirT]
  | k + 1, h => by
    have ih := dirT_len hS k (by omega)
    have ht := text_len l[k] (hS _ (List.getElem_mem (by omega)))
    rw [dirT_take (by omega : k < l.length), List.length_append]
    unfold preT
    split
    · simp; omega
    · simp; omega
theorem preT_len {l : List Dv} (hS : SmDv l) (k : Nat) (h : k ≤ l.length) : (preT (l.take k)).length ≤ k * 3000020 + 2 := by
  have := dirT_len hS k h
  unfold preT
  split <;> simp <;> omega
/-- What Format returns. -/
def fmtR (l : List Dv) : List UInt8 × Int := if dirOk l = false then ([], 1) else if 4096 < (dirT l).length then ([], 3) else (dirT l, 0)
theorem fmt_bad {l : List Dv} (h : dirOk l = false) : fmtR l = ([], 1) := by unfold fmtR; rw [if_pos h]
theorem fmt_long {l : List Dv} (h : dirOk l = true) (h2 : 4096 < (dirT l).length) : fmtR l = ([], 3) := by unfold fmtR; rw [if_neg (by rw [h]; decide), if_pos h2]
theorem fmt_good {l : List Dv} (h : dirOk l = true) (h2 : ¬ 4096 < (dirT l).length) : fmtR l = (dirT l, 0) := by unfold fmtR; rw [if_neg (by rw [h]; decide), if_neg h2]
def FmtPost (l : List Dv) (w : World) (e : Ending) (w' : World) : Prop := e = .returned (.tuple #[.string (bs (fmtR l).1), .int .i64 (fmtR l).2]) ∧ Below w.heap.size w w'
theorem fmt_ret {l : List Dv} {w w' : World} {e : Ending} {t : List UInt8} {r : Int} (h : fmtR l = (t, r)) (hb : Below w.heap.size w w') (he : e = .returned (.tuple #[.string (bs t), .int .i64 r])) : FmtPost l w e w' := by
  unfold FmtPost
  rw [h]
  exact ⟨he, hb⟩
theorem ok_each {l : List Dv} (h : dirOk l = true) {k : Nat} (hk : k < l.length) : vlOk l[k].has l[k].value = true := by
  unfold dirOk at h
  rw [Bool.and_eq_true, List.all_eq_true] at h
  have := h.1 _ (List.getElem_mem hk)
  rw [dv_ok, Bool.and_eq_true] at this
  exact this.2
theorem ok_len {l : List Dv} (h : dirOk l = true) : l.length ≤ 32 := by
  unfold dirOk at h
  rw [Bool.and_eq_true, decide_eq_true_eq] at h
  exact h.2
theorem vl_in {b : Bool} {v : List UInt8} (h : vlOk b v = true) : v.all inU = true := by
  unfold vlOk at h
  rw [Bool.and_eq_true] at h
  exact h.2

set_option maxRecDepth 20000 in
set_option maxHeartbeats 8000000 in
theorem dirFormat_any (A : Option Addr) (n c B : Nat) (l : List Dv) (w : World) (hA : HasDv w B A n l) (hS : SmDv l) (hn : n ≤ 1000000) (hnc : n ≤ c) (hB : B ≤ w.heap.size) :
    Calls Try.prog 13 #[.slice A n c] w (FmtPost l w) := by
  have cv := dirValid_any A n c B l w hA hS hn hnc hB
  cases hok : dirOk l with
  | false =>
    have HX := Lib.hid (fmt_bad hok)
    rw [hok] at cv
    clear hok hA hS
    go_enter Try.func13, Try.ntmps13
    go_wp2_with fail
    refine cv.mono ?_
    rintro e w1 ⟨rfl, hb⟩
    go_wp2
    go_ret2
    exact fmt_ret HX.out hb rfl
  | true =>
    rw [hok] at cv
    have hl := hA.1
    have hn32 : n ≤ 32 := by have := ok_len hok; omega
    have hlen := dirT_len hS l.length (Nat.le_refl _)
    rw [List.take_length] at hlen
    have hlen2 : (dirT l).length ≤ 100000000000 := by omega
    have HV : Hid (∀ {k : Nat} (hk : k < l.length), vlOk l[k].has l[k].value = true) := Lib.hid fun hk => ok_each hok hk
    have HO := Lib.hid hok
    have HA := Lib.hid hA
    have HS := Lib.hid hS
    have HL := Lib.hid hl
    clear hok hA hS hl hlen
    go_enter Try.func13, Try.ntmps13
    go_wp2_with fail
    refine cv.mono ?_
    rintro e w1 ⟨rfl, hb1⟩
    have HB0 := Lib.hid (bld_new w1)
    have HW0 : Hid (Below w1.heap.size w1 (w1.alloc (.cells #[.pointer none, .slice none 0 0] 52))) := Lib.hid ((Below.refl _ _).alloc (Nat.le_refl _) _)
    have HB1 := Lib.hid hb1
    clear hb1
    go_wp2
    go_loopw [12] (fun i wr => ∃ k : Nat, k ≤ n ∧ i = .int .i64 k ∧ Hid (Bld w1.heap.size w1.heap.size (dirT (l.take k)) wr) ∧ Hid (Below w1.heap.size w1 wr)) (fun i _ => n - (intOf i).toNat)
    case atStart => exact ⟨0, Nat.zero_le _, rfl, HB0, HW0⟩
    case round =>
      obtain ⟨k, hk, rfl, HB, HW⟩ := hrel
      have hkb : (k : Int) ≤ 32 := by omega
      by_cases hlt : k < n
      · have hkl : k < l.length := by rw [HL.out]; exact hlt
        have HW2 : Hid (Below w.heap.size w wr) := Lib.hid (HB1.out.trans (HW.out.mono HB1.out.size))
        obtain ⟨b, off, rfl, hb, g0, g1, g2⟩ := (HA.out.below' HW2.out hB).at_ hlt
        have hsm := HS.out _ (List.getElem_mem hkl)
        have hv := HV.out hkl
        have HT := dirT_take hkl
        have hpl := preT_len HS.out k (by omega)
        have htl : (dirT (l.take k)).length ≤ 100000000000 := by have := dirT_len HS.out k (by omega); omega
        have hpl2 : (preT (l.take k)).length ≤ 1000000000 := by omega
        have hpre : preT (l.take k) = if k = 0 then [] else dirT (l.take k) ++ [59, 32] := by
          unfold preT
          rw [List.length_take, Nat.min_eq_left (by omega)]
        generalize l[k] = d at *
        have hcf := fun W => formatValue_any d.value (vl_in hv) hsm.2 W
        have hns : (bs d.name).size ≤ 1000000000 := by rw [bs_size]; omega
        have hvs : (bs (valT d.value)).size ≤ 1000000000 := by rw [bs_size]; have := valT_len d.value; omega
        have hnl : (preT (l.take k) ++ d.name).length ≤ 100000000000 := by rw [List.length_append]; omega
        have hnl2 : (preT (l.take k) ++ d.name ++ [61]).length ≤ 100000000000 := by simp; omega
        have e1 : ls (bs d.name) = d.name := rfl
        have e2 : ls (bs (valT d.value)) = valT d.value := rfl
        have HT : Hid (dirT (l.take (k + 1)) = preT (l.take k) ++ d.name ++ (if d.has then 61 :: valT d.value else [])) := by
          show _ = _
          rw [HT, Dv.text, List.append_assoc]
        have HP := Lib.hid hpre
        clear hv hsm hpre hkl hpl
        -- body begins
        have hsz : w1.heap.size ≤ wr.heap.size := HW.out.size
        have hbne : w1.heap.size < wr.heap.size := by
          rcases HB.out with h | h
          · exact (Array.getElem?_eq_some_iff.1 h.2.choose_spec.1).1
          · exact (Array.getElem?_eq_some_iff.1 h.2.choose_spec.1).1
        have hcf' := hcf
        clear hcf
        generalize hD : d.value = DV at *
        generalize hDn : d.name = DN at *
        generalize hDh : d.has = HH at *
        clear hD hDn hDh
        generalize bs DV = V at *
        generalize hNe : bs DN = N at *
        generalize hTe : bs (valT DV) = T at *
        clear hNe hTe
        by_cases hk0 : k = 0
        · have t1 : decide ((0 : Int) < (k : Int)) = false := decide_eq_false (by omega)
          have n1 : ¬ 0 < k := by omega
          have HP : Hid (dirT (l.take k) = preT (l.take k)) := by
            show _ = _
            rw [HP.out, if_pos hk0, hk0]
            rfl
          rw [HP.out] at HB
          clear HP hk0
          generalize preT (l.take k) = PT at *
          cases HH with
          | false =>
            have HT : Hid (dirT (l.take (k + 1)) = PT ++ DN) := by
              have h := HT.out
              rw [if_neg (by decide), List.append_nil] at h
              exact Lib.hid h
            go_wp2_with (first
              | (refine wpList_load_dvm (by rfl) _ rfl b (off + k * 3) (by exact rfl) _ _ _ g0 g1 g2 ?_)
              | (refine wpList_alloc_arr _ rfl 6 rfl _ rfl dz zeroDv ?_
                 intro W6 g6 hg6 hl6 hR6 hG6
                 have hb6 := below_row0 (Below.refl wr.heap.size wr) hG6 (Nat.le_refl _))
              | (refine wpList_store_dv rfl rfl _ _ rfl g6 (by exact rfl) N V false (by exact rfl) _ _ _ hR6 ?_
                 intro w7 hr6 hG7
                 have hb7 := below_row hb6 hG7 (Nat.le_refl _) hg6
                 have HB := Lib.hid (HB.out.below hb7)
                 have HW := Lib.hid (HW.out.trans (hb7.mono hsz))
                 obtain ⟨z0, z1, z2⟩ := hr6.cells
                 clear hb6 hb7 hG6 hG7))
            have hne : g6 ≠ w1.heap.size := by omega
            clear hg6 hl6 hR6
            refine (ws_any _ _ _ N _ HB.out (by omega) hns HW.out.size).mono ?_
            rintro e w8 ⟨rfl, hB8, hb8, hk8⟩
            have hr6 : RowDv w8 g6 N V false := hk8 g6 _ _ _ hne (by decide) hr6
            have HB := Lib.hid hB8
            have HW := Lib.hid (HW.out.trans hb8)
            obtain ⟨z0, z1, z2⟩ := hr6.cells
            clear hB8 hb8 hk8
            have HB : Hid (Bld w1.heap.size w1.heap.size (dirT (l.take (k + 1))) w8) := by
              have := HB.out
              rw [e1] at this
              rw [HT.out]
              exact Lib.hid this
            go_wp2
            go_roundw
            case rel => exact ⟨k + 1, by omega, by go_num, HB, HW⟩
            case measure => simp [intOf]; omega
          | true =>
            have HT : Hid (dirT (l.take (k + 1)) = PT ++ DN ++ 61 :: valT DV) := by
              have h := HT.out
              rw [if_pos rfl] at h
              exact Lib.hid h
            go_wp2_with (first
              | (refine wpList_load_dvm (by rfl) _ rfl b (off + k * 3) (by exact rfl) _ _ _ g0 g1 g2 ?_)
              | (refine wpList_alloc_arr _ rfl 6 rfl _ rfl dz zeroDv ?_
                 intro W6 g6 hg6 hl6 hR6 hG6
                 have hb6 := below_row0 (Below.refl wr.heap.size wr) hG6 (Nat.le_refl _))
              | (refine wpList_store_dv rfl rfl _ _ rfl g6 (by exact rfl) N V true (by exact rfl) _ _ _ hR6 ?_
                 intro w7 hr6 hG7
                 have hb7 := below_row hb6 hG7 (Nat.le_refl _) hg6
                 have HB := Lib.hid (HB.out.below hb7)
                 have HW := Lib.hid (HW.out.trans (hb7.mono hsz))
                 obtain ⟨z0, z1, z2⟩ := hr6.cells
                 clear hb6 hb7 hG6 hG7))
            have hne : g6 ≠ w1.heap.size := by omega
            clear hg6 hl6 hR6
            refine (ws_any _ _ _ N _ HB.out (by omega) hns HW.out.size).mono ?_
            rintro e w8 ⟨rfl, hB8, hb8, hk8⟩
            have hr6 : RowDv w8 g6 N V true := hk8 g6 _ _ _ hne (by decide) hr6
            have HB := Lib.hid hB8
            have HW := Lib.hid (HW.out.trans hb8)
            obtain ⟨z0, z1, z2⟩ := hr6.cells
            clear hB8 hb8 hk8
            rw [e1] at HB
            go_wp2_with fail
            refine (wb_k _ _ _ 61 _ HB.out hnl HW.out.size).mono ?_
            rintro e w9 ⟨rfl, hB8, hb8, hk8⟩
            have hr6 : RowDv w9 g6 N V true := hk8 g6 _ _ _ hne (by decide) hr6
            have HB := Lib.hid hB8
            have HW := Lib.hid (HW.out.trans hb8)
            obtain ⟨z0, z1, z2⟩ := hr6.cells
            clear hB8 hb8 hk8
            go_wp2_with fail
            refine (hcf' _).mono ?_
            rintro e wA ⟨rfl, hbA⟩
            have HB := Lib.hid (HB.out.below hbA)
            have HW := Lib.hid (HW.out.trans (hbA.mono HW.out.size))
            clear hbA
            go_wp2_with fail
            refine (ws_any _ _ _ T _ HB.out hnl2 hvs HW.out.size).mono ?_
            rintro e wB ⟨rfl, hB8, hb8, hk8⟩
            have HB : Hid (Bld w1.heap.size w1.heap.size (dirT (l.take (k + 1))) wB) := by
              rw [e2] at hB8
              have h2 := hB8
              rw [List.append_assoc, List.append_assoc] at h2
              rw [HT.out, List.append_assoc]
              exact Lib.hid h2
            have HW := Lib.hid (HW.out.trans hb8)
            clear hB8 hb8 hk8
            go_wp2
            go_roundw
            case rel => exact ⟨k + 1, by omega, by go_num, HB, HW⟩
            case measure => simp [intOf]; omega
        · have t1 : decide ((0 : Int) < (k : Int)) = true := decide_eq_true (by omega)
          have n1 : 0 < k := by omega
          have HP : Hid (preT (l.take k) = dirT (l.take k) ++ [59, 32]) := by
            show _ = _
            rw [HP.out, if_neg hk0]
          clear hk0
          generalize preT (l.take k) = PT at *
          cases HH with
          | false =>
            have HT : Hid (dirT (l.take (k + 1)) = PT ++ DN) := by
              have h := HT.out
              rw [if_neg (by decide), List.append_nil] at h
              exact Lib.hid h
            go_wp2_with (first
              | (refine wpList_load_dvm (by rfl) _ rfl b (off + k * 3) (by exact rfl) _ _ _ g0 g1 g2 ?_)
              | (refine wpList_alloc_arr _ rfl 6 rfl _ rfl dz zeroDv ?_
                 intro W6 g6 hg6 hl6 hR6 hG6
                 have hb6 := below_row0 (Below.refl wr.heap.size wr) hG6 (Nat.le_refl _))
              | (refine wpList_store_dv rfl rfl _ _ rfl g6 (by exact rfl) N V false (by exact rfl) _ _ _ hR6 ?_
                 intro w7 hr6 hG7
                 have hb7 := below_row hb6 hG7 (Nat.le_refl _) hg6
                 have HB := Lib.hid (HB.out.below hb7)
                 have HW := Lib.hid (HW.out.trans (hb7.mono hsz))
                 obtain ⟨z0, z1, z2⟩ := hr6.cells
                 clear hb6 hb7 hG6 hG7))
            have hne : g6 ≠ w1.heap.size := by omega
            clear hg6 hl6 hR6
            refine (ws_any _ _ _ ⟨#[59, 32]⟩ _ HB.out htl (by decide) HW.out.size).mono ?_
            rintro e w8 ⟨rfl, hB8, hb8, hk8⟩
            have hr6 : RowDv w8 g6 N V false := hk8 g6 _ _ _ hne (by decide) hr6
            have HB := Lib.hid hB8
            have HW := Lib.hid (HW.out.trans hb8)
            obtain ⟨z0, z1, z2⟩ := hr6.cells
            clear hB8 hb8 hk8
            replace HB : Hid (Bld w1.heap.size w1.heap.size PT w8) := by
              have := HB.out
              rw [show dirT (l.take k) ++ ls ⟨#[59, 32]⟩ = PT from HP.out.symm] at this
              exact Lib.hid this
            go_wp2_with fail
            refine (ws_any _ _ _ N _ HB.out (by omega) hns HW.out.size).mono ?_
            rintro e w8 ⟨rfl, hB8, hb8, hk8⟩
            have hr6 : RowDv w8 g6 N V false := hk8 g6 _ _ _ hne (by decide) hr6
            have HB := Lib.hid hB8
            have HW := Lib.hid (HW.out.trans hb8)
            obtain ⟨z0, z1, z2⟩ := hr6.cells
            clear hB8 hb8 hk8
            have HB : Hid (Bld w1.heap.size w1.heap.size (dirT (l.take (k + 1))) w8) := by
              have := HB.out
              rw [e1] at this
              rw [HT.out]
              exact Lib.hid this
            go_wp2
            go_roundw
            case rel => exact ⟨k + 1, by omega, by go_num, HB, HW⟩
            case measure => simp [intOf]; omega
          | true =>
            have HT : Hid (dirT (l.take (k + 1)) = PT ++ DN ++ 61 :: valT DV) := by
              have h := HT.out
              rw [if_pos rfl] at h
              exact Lib.hid h
            go_wp2_with (first
              | (refine wpList_load_dvm (by rfl) _ rfl b (off + k * 3) (by exact rfl) _ _ _ g0 g1 g2 ?_)
              | (refine wpList_alloc_arr _ rfl 6 rfl _ rfl dz zeroDv ?_
                 intro W6 g6 hg6 hl6 hR6 hG6
                 have hb6 := below_row0 (Below.refl wr.heap.size wr) hG6 (Nat.le_refl _))
              | (refine wpList_store_dv rfl rfl _ _ rfl g6 (by exact rfl) N V true (by exact rfl) _ _ _ hR6 ?_
                 intro w7 hr6 hG7
                 have hb7 := below_row hb6 hG7 (Nat.le_refl _) hg6
                 have HB := Lib.hid (HB.out.below hb7)
                 have HW := Lib.hid (HW.out.trans (hb7.mono hsz))
                 obtain ⟨z0, z1, z2⟩ := hr6.cells
                 clear hb6 hb7 hG6 hG7))
            have hne : g6 ≠ w1.heap.size := by omega
            clear hg6 hl6 hR6
            refine (ws_any _ _ _ ⟨#[59, 32]⟩ _ HB.out htl (by decide) HW.out.size).mono ?_
            rintro e w8 ⟨rfl, hB8, hb8, hk8⟩
            have hr6 : RowDv w8 g6 N V true := hk8 g6 _ _ _ hne (by decide) hr6
            have HB := Lib.hid hB8
            have HW := Lib.hid (HW.out.trans hb8)
            obtain ⟨z0, z1, z2⟩ := hr6.cells
            clear hB8 hb8 hk8
            replace HB : Hid (Bld w1.heap.size w1.heap.size PT w8) := by
              have := HB.out
              rw [show dirT (l.take k) ++ ls ⟨#[59, 32]⟩ = PT from HP.out.symm] at this
              exact Lib.hid this
            go_wp2_with fail
            refine (ws_any _ _ _ N _ HB.out (by omega) hns HW.out.size).mono ?_
            rintro e w8 ⟨rfl, hB8, hb8, hk8⟩
            have hr6 : RowDv w8 g6 N V true := hk8 g6 _ _ _ hne (by decide) hr6
            have HB := Lib.hid hB8
            have HW := Lib.hid (HW.out.trans hb8)
            obtain ⟨z0, z1, z2⟩ := hr6.cells
            clear hB8 hb8 hk8
            rw [e1] at HB
            go_wp2_with fail
            refine (wb_k _ _ _ 61 _ HB.out hnl HW.out.size).mono ?_
            rintro e w9 ⟨rfl, hB8, hb8, hk8⟩
            have hr6 : RowDv w9 g6 N V true := hk8 g6 _ _ _ hne (by decide) hr6
            have HB := Lib.hid hB8
            have HW := Lib.hid (HW.out.trans hb8)
            obtain ⟨z0, z1, z2⟩ := hr6.cells
            clear hB8 hb8 hk8
            go_wp2_with fail
            refine (hcf' _).mono ?_
            rintro e wA ⟨rfl, hbA⟩
            have HB := Lib.hid (HB.out.below hbA)
            have HW := Lib.hid (HW.out.trans (hbA.mono HW.out.size))
            clear hbA
            go_wp2_with fail
            refine (ws_any _ _ _ T _ HB.out hnl2 hvs HW.out.size).mono ?_
            rintro e wB ⟨rfl, hB8, hb8, hk8⟩
            have HB : Hid (Bld w1.heap.size w1.heap.size (dirT (l.take (k + 1))) wB) := by
              rw [e2] at hB8
              have h2 := hB8
              rw [List.append_assoc, List.append_assoc] at h2
              rw [HT.out, List.append_assoc]
              exact Lib.hid h2
            have HW := Lib.hid (HW.out.trans hb8)
            clear hB8 hb8 hk8
            go_wp2
            go_roundw
            case rel => exact ⟨k + 1, by omega, by go_num, HB, HW⟩
            case measure => simp [intOf]; omega
        -- body ends
      · obtain rfl : k = n := by omega
        have HE : Hid (Bld w1.heap.size w1.heap.size (dirT l) wr) := by
          have := HB.out
          rw [List.take_of_length_le (by rw [HL.out]; exact Nat.le_refl _)] at this
          exact Lib.hid this
        have hsz : w1.heap.size ≤ wr.heap.size := HW.out.size
        by_cases hbig : 4096 < (dirT l).length
        · have hd : decide ((4096 : Int) < ((dirT l).length : Int)) = true := decide_eq_true (by omega)
          have HX := Lib.hid (fmt_long HO.out hbig)
          clear hbig
          go_wp2_with fail
          refine (bl_any _ _ _ _ HE.out).mono ?_
          rintro e w' ⟨rfl, rfl⟩
          go_wp2
          go_ret2
          exact fmt_ret HX.out (HB1.out.trans (HW.out.mono HB1.out.size)) rfl
        · have hd : decide ((4096 : Int) < ((dirT l).length : Int)) = false := decide_eq_false (by omega)
          have HX := Lib.hid (fmt_good HO.out hbig)
          clear hbig
          go_wp2_with fail
          refine (bl_any _ _ _ _ HE.out).mono ?_
          rintro e w' ⟨rfl, rfl⟩
          go_wp2_with fail
          refine (bstr_any _ _ _ _ HE.out hsz).mono ?_
          rintro e w3 ⟨rfl, hW3⟩
          go_wp2
          go_ret2
          exact fmt_ret HX.out (HB1.out.trans ((HW.out.trans hW3).mono HB1.out.size)) rfl

end Go.Proofs.Ytbpgkdhdooaigaa
