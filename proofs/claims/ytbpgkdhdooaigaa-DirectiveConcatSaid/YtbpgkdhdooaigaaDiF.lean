/-
  Valid of package directive, and the text of a value.
-/
import Derived.Test.YtbpgkdhdooaigaaDvM
import Derived.Test.YtbpgkdhdooaigaaQdC
import Derived.Test.YtbpgkdhdooaigaaAsL
import Derived.Test.YtbpgkdhdooaigaaDiT
namespace Go.Proofs.Ytbpgkdhdooaigaa
open Go.RowKit

theorem bs_beq (a b : List UInt8) : ((bs a).toList == (bs b).toList) = decide (a = b) := by
  rw [toList_ls, toList_ls, ls_bs, ls_bs]
  rw [Bool.eq_iff_iff]
  simp
theorem isTk_bs (l : List UInt8) : isTk (bs l) = (!l.isEmpty && l.all tokU) := rfl
theorem bs_beq0 (a : List UInt8) : ((bs a).toList == ([] : List UInt8)) = a.isEmpty := by
  rw [toList_ls, ls_bs]
  cases a <;> rfl
def nmOk (l : List UInt8) : Bool := !l.isEmpty && l.all tokU && decide (lowL l = l)
def vlOk (h : Bool) (l : List UInt8) : Bool := (h || l.isEmpty) && l.all inU
theorem dv_ok (d : Dv) : d.ok = (nmOk d.name && vlOk d.has d.value) := by
  unfold Dv.ok nmOk vlOk
  simp only [Bool.and_assoc]

set_option maxHeartbeats 1000000 in
theorem validName_any (l : List UInt8) (hs : l.length ≤ 1000000) (w : World) :
    Calls Try.prog 32 #[.string (bs l)] w fun e w' => e = .returned (.bool (nmOk l)) ∧ Below w.heap.size w w' := by
  have c1 := fun W => isTk_any (bs l) (by rw [bs_size]; omega) W
  have c2 := fun W => lower_any (bs l) W (by rw [bs_size]; omega)
  rw [isTk_bs] at c1
  rw [low_bs] at c2
  have hq := bs_beq (lowL l) l
  have HN : Hid (nmOk l = ((!l.isEmpty && l.all tokU) && decide (lowL l = l))) := Lib.hid rfl
  generalize decide (lowL l = l) = D at *
  generalize bs (lowL l) = L at *
  generalize bs l = S at *
  cases ht : (!l.isEmpty && l.all tokU) with
  | false =>
    rw [ht] at c1 HN
    clear ht
    go_enter Try.func32, Try.ntmps32
    go_wp2_with fail
    refine (c1 _).mono ?_
    rintro e w' ⟨rfl, rfl⟩
    go_wp2
    go_ret
    exact ⟨ret_bool (by rw [HN.out]; rfl), Below.refl _ _⟩
  | true =>
    rw [ht] at c1 HN
    clear ht
    go_enter Try.func32, Try.ntmps32
    go_wp2_with fail
    refine (c1 _).mono ?_
    rintro e w' ⟨rfl, rfl⟩
    go_wp2_with fail
    refine (c2 _).mono ?_
    rintro e w5 ⟨rfl, hb⟩
    go_wp2
    go_ret
    exact ⟨ret_bool (by rw [HN.out]; simp), hb⟩

theorem quo_at18 {s : ByteArray} {t : ByteArray} {r : Int} (f : FuncId) (hh : ∀ w, Calls Try.prog f #[.string s] w (URes s w)) (h : quoS s = t ∧ quoE s = r) (w : World) :
    Calls Try.prog f #[.string s] w fun e w' => e = .returned (.tuple #[.string t, .int .i64 r]) ∧ Below w.heap.size w w' := by
  refine (hh w).mono ?_
  rintro e w' ⟨h1, h2⟩
  rw [h.1, h.2] at h1
  exact ⟨h1, h2⟩

set_option maxHeartbeats 1000000 in
theorem validValue_any (n : ByteArray) (l : List UInt8) (b : Bool) (hs : l.length ≤ 1000000) (w : World) :
    Calls Try.prog 33 #[.agg #[.string n, .string (bs l), .bool b]] w fun e w' => e = .returned (.bool (vlOk b l)) ∧ Below w.heap.size w w' := by
  have hq := bs_beq0 l
  have h0 : Below w.heap.size w (w.alloc (.cells #[.string n, .string (bs l), .bool b] 40)) := (Below.refl _ _).alloc (Nat.le_refl _) _
  cases b with
  | false =>
    have HN : Hid (vlOk false l = l.isEmpty) := by
      show _ = _
      unfold vlOk
      cases l <;> simp
    generalize l.isEmpty = D at *
    generalize bs l = S at *
    go_enter Try.func33, Try.ntmps33
    go_wp2
    go_ret
    exact ⟨ret_bool (by rw [HN.out]), h0⟩
  | true =>
    have HN : Hid (vlOk true l = l.all inU) := by
      show _ = _
      unfold vlOk
      simp
    cases ha : l.all inU with
    | true =>
      rw [ha] at HN
      have c1 := quo_at18 _ (fun W => quote_any (bs l) (by rw [bs_size]; omega) W) (quo_yes (bs l) ha)
      generalize bs (quoL (ls (bs l))) = T at *
      generalize bs l = S at *
      clear ha hq
      go_enter Try.func33, Try.ntmps33
      go_wp2_with fail
      refine (c1 _).mono ?_
      rintro e w5 ⟨rfl, hb⟩
      go_wp2
      go_ret
      exact ⟨ret_bool (by rw [HN.out]), h0.trans (hb.mono h0.size)⟩
    | false =>
      rw [ha] at HN
      have c1 := quo_at18 _ (fun W => quote_any (bs l) (by rw [bs_size]; omega) W) (quo_no (bs l) ha)
      generalize bs l = S at *
      clear ha hq
      go_enter Try.func33, Try.ntmps33
      go_wp2_with fail
      refine (c1 _).mono ?_
      rintro e w5 ⟨rfl, hb⟩
      go_wp2
      go_ret
      exact ⟨ret_bool (by rw [HN.out]), h0.trans (hb.mono h0.size)⟩

set_option maxHeartbeats 1000000 in
theorem formatValue_any (l : List UInt8) (ha : l.all inU = true) (hs : l.length ≤ 1000000) (w : World) :
    Calls Try.prog 27 #[.string (bs l)] w fun e w' => e = .returned (.string (bs (valT l))) ∧ Below w.heap.size w w' := by
  have c1 := fun W => isTk_any (bs l) (by rw [bs_size]; omega) W
  rw [isTk_bs] at c1
  cases ht : (!l.isEmpty && l.all tokU) with
  | true =>
    have HN : Hid (valT l = l) := Lib.hid (by unfold valT; rw [if_pos ht])
    rw [HN.out]
    rw [ht] at c1
    clear ht
    generalize bs l = S at *
    go_enter Try.func27, Try.ntmps27
    go_wp2_with fail
    refine (c1 _).mono ?_
    rintro e w' ⟨rfl, rfl⟩
    go_wp2
    go_ret
    exact ⟨rfl, Below.refl _ _⟩
  | false =>
    have HN : Hid (valT l = quoL l) := Lib.hid (by unfold valT; rw [if_neg (by rw [ht]; decide)])
    have c2 := quo_at18 _ (fun W => quote_any (bs l) (by rw [bs_size]; omega) W) (quo_yes (bs l) ha)
    rw [ls_bs] at c2
    rw [HN.out]
    rw [ht] at c1
    clear ht ha
    generalize bs (quoL l) = T at *
    generalize bs l = S at *
    go_enter Try.func27, Try.ntmps27
    go_wp2_with fail
    refine (c1 _).mono ?_
    rintro e w' ⟨rfl, rfl⟩
    go_wp2_with fail
    refine (c2 _).mono ?_
    rintro e w5 ⟨rfl, hb⟩
    go_wp2
    go_ret
    exact ⟨rfl, hb⟩

/-- Names and values are not too long. -/
def SmDv (l : List Dv) : Prop := ∀ d ∈ l, d.name.length ≤ 1000000 ∧ d.value.length ≤ 1000000
theorem all_drop {l : List Dv} {k : Nat} (h : k < l.length) : (l.drop k).all Dv.ok = (l[k].ok && (l.drop (k + 1)).all Dv.ok) := by
  rw [List.drop_eq_getElem_cons h, List.all_cons]

set_option maxRecDepth 20000 in
set_option maxHeartbeats 4000000 in
theorem dirValid_any (A : Option Addr) (n c B : Nat) (l : List Dv) (w : World) (hA : HasDv w B A n l) (hS : SmDv l) (hn : n ≤ 1000000) (_hnc : n ≤ c) (hB : B ≤ w.heap.size) :
    Calls Try.prog 15 #[.slice A n c] w fun e w' => e = .returned (.bool (dirOk l)) ∧ Below w.heap.size w w' := by
  have hl := hA.1
  by_cases hbig : 32 < n
  · have HN : Hid (dirOk l = false) := by
      show _ = _
      unfold dirOk
      rw [decide_eq_false (by omega : ¬ l.length ≤ 32), Bool.and_false]
    have hd : decide ((32 : Int) < (n : Int)) = true := decide_eq_true (by omega)
    clear hbig hA
    go_enter Try.func15, Try.ntmps15
    go_wp2
    go_ret
    exact ⟨ret_bool (by rw [HN.out]), Below.refl _ _⟩
  · have HN : Hid (dirOk l = (l.drop 0).all Dv.ok) := by
      show _ = _
      unfold dirOk
      rw [decide_eq_true (by omega : l.length ≤ 32), Bool.and_true, List.drop_zero]
    have hd : decide ((32 : Int) < (n : Int)) = false := decide_eq_false (by omega)
    have HA := Lib.hid hA
    have HS := Lib.hid hS
    have HL := Lib.hid hl
    generalize dirOk l = R at *
    clear hbig hA hS hl
    go_enter Try.func15, Try.ntmps15
    go_wp2
    go_loopw [10] (fun i wr => ∃ k : Nat, k ≤ n ∧ i = .int .i64 k ∧ Hid (Below w.heap.size w wr) ∧ Hid (R = (l.drop k).all Dv.ok)) (fun i _ => n - (intOf i).toNat)
    case atStart => exact ⟨0, Nat.zero_le _, rfl, Lib.hid (Below.refl _ _), HN⟩
    case round =>
      obtain ⟨k, hk, rfl, HW, HR⟩ := hrel
      have hkb : (k : Int) ≤ 1000000 := by omega
      by_cases hlt : k < n
      · have hkl : k < l.length := by rw [HL.out]; exact hlt
        obtain ⟨b, off, rfl, hb, g0, g1, g2⟩ := (HA.out.below' HW.out hB).at_ hlt
        have HK := HR.out
        rw [all_drop hkl, dv_ok] at HK
        have hsm := HS.out _ (List.getElem_mem hkl)
        have cn := fun W => validName_any l[k].name hsm.1 W
        have cv := fun W => validValue_any (bs l[k].name) l[k].value l[k].has hsm.2 W
        generalize l[k] = d at *
        generalize nmOk d.name = x at *
        generalize vlOk d.has d.value = y at *
        have HK := Lib.hid HK
        clear hsm hkl
        generalize bs d.name = N at *
        generalize bs d.value = V at *
        generalize d.has = Hh at *
        cases x with
        | false =>
          go_wp2_with (first
            | (refine wpList_load_dvm (by rfl) _ rfl b (off + k * 3) (by exact rfl) _ _ _ g0 g1 g2 ?_)
            | (refine wpList_alloc_arr _ rfl 4 rfl _ rfl dz zeroDv ?_
               intro W6 g6 hg6 hl6 hR6 hG6
               have HW6 := Lib.hid (below_row0 HW.out hG6 (Nat.le_refl _))
               have h6 : w.heap.size ≤ g6 := Nat.le_trans HW.out.size hg6)
            | (refine wpList_store_dv rfl rfl _ _ rfl g6 (by exact rfl) N V Hh (by exact rfl) _ _ _ hR6 ?_
               intro w7 hr6 hG7
               have HW7 := Lib.hid (below_row HW6.out hG7 (Nat.le_refl _) h6)
               obtain ⟨z0, z1, z2⟩ := hr6.cells))
          refine (cn _).mono ?_
          rintro e w8 ⟨rfl, hb8⟩
          go_wp2
          go_ret
          exact ⟨ret_bool (by rw [HK.out]; rfl), HW7.out.trans (hb8.mono HW7.out.size)⟩
        | true =>
          cases y with
          | false =>
            go_wp2_with (first
              | (refine wpList_load_dvm (by rfl) _ rfl b (off + k * 3) (by exact rfl) _ _ _ g0 g1 g2 ?_)
              | (refine wpList_alloc_arr _ rfl 4 rfl _ rfl dz zeroDv ?_
                 intro W6 g6 hg6 hl6 hR6 hG6
                 have HW6 := Lib.hid (below_row0 HW.out hG6 (Nat.le_refl _))
                 have h6 : w.heap.size ≤ g6 := Nat.le_trans HW.out.size hg6)
              | (refine wpList_store_dv rfl rfl _ _ rfl g6 (by exact rfl) N V Hh (by exact rfl) _ _ _ hR6 ?_
                 intro w7 hr6 hG7
                 have HW7 := Lib.hid (below_row HW6.out hG7 (Nat.le_refl _) h6)
                 obtain ⟨z0, z1, z2⟩ := hr6.cells))
            refine (cn _).mono ?_
            rintro e w8 ⟨rfl, hb8⟩
            have hr8 : RowDv w8 g6 N V Hh := Row.below hr6 hb8 (Row.lt hr6)
            have HW8 := Lib.hid (HW7.out.trans (hb8.mono HW7.out.size))
            go_wp2_with (first | refine wpList_load_dv (by rfl) _ rfl g6 (by exact rfl) _ _ _ hr8 ?_)
            refine (cv _).mono ?_
            rintro e w9 ⟨rfl, hb9⟩
            go_wp2
            go_ret
            exact ⟨ret_bool (by rw [HK.out]; rfl), HW8.out.trans (hb9.mono HW8.out.size)⟩
          | true =>
            go_wp2_with (first
              | (refine wpList_load_dvm (by rfl) _ rfl b (off + k * 3) (by exact rfl) _ _ _ g0 g1 g2 ?_)
              | (refine wpList_alloc_arr _ rfl 4 rfl _ rfl dz zeroDv ?_
                 intro W6 g6 hg6 hl6 hR6 hG6
                 have HW6 := Lib.hid (below_row0 HW.out hG6 (Nat.le_refl _))
                 have h6 : w.heap.size ≤ g6 := Nat.le_trans HW.out.size hg6)
              | (refine wpList_store_dv rfl rfl _ _ rfl g6 (by exact rfl) N V Hh (by exact rfl) _ _ _ hR6 ?_
                 intro w7 hr6 hG7
                 have HW7 := Lib.hid (below_row HW6.out hG7 (Nat.le_refl _) h6)
                 obtain ⟨z0, z1, z2⟩ := hr6.cells))
            refine (cn _).mono ?_
            rintro e w8 ⟨rfl, hb8⟩
            have hr8 : RowDv w8 g6 N V Hh := Row.below hr6 hb8 (Row.lt hr6)
            have HW8 := Lib.hid (HW7.out.trans (hb8.mono HW7.out.size))
            go_wp2_with (first | refine wpList_load_dv (by rfl) _ rfl g6 (by exact rfl) _ _ _ hr8 ?_)
            refine (cv _).mono ?_
            rintro e w9 ⟨rfl, hb9⟩
            have HW9 := Lib.hid (HW8.out.trans (hb9.mono HW8.out.size))
            go_wp2
            go_roundw
            case rel => exact ⟨k + 1, by omega, by go_num, HW9, by show _ = _; rw [HK.out]; rfl⟩
            case measure => simp [intOf]; omega
      · have HE : Hid (R = true) := by
          show _ = _
          rw [HR.out, List.drop_of_length_le (by rw [HL.out]; omega)]
          rfl
        go_wp2
        go_ret
        exact ⟨ret_bool (by rw [HE.out]), HW.out⟩

end Go.Proofs.Ytbpgkdhdooaigaa
