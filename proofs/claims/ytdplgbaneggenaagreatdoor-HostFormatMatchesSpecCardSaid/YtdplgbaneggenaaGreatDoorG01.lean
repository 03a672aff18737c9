/-
The reference's ValidName of layer 14.
The reference's Valid and Format of layer 14; the walk of HostFormatMatchesSpec (written by tools/gen-HrF.py).
-/
import Derived.Test.YtdplgbaneggenaaGreatDoorB12
import Derived.Test.YtdplgbaneggenaaGreatDoorG00
import Derived.Test.YtdplgbaneggenaaGreatDoorB11
import Derived.Test.YtdplgbaneggenaaGreatDoorB31
import Derived.Test.YtdplgbaneggenaaGreatDoorB21
import Derived.Test.YtdplgbaneggenaaGreatDoorB15
namespace Go.Proofs.YtdplgbaneggenaaGreatDoor
section
open Go.RowKit Go.Shelf

theorem vn_short {l : List UInt8} (h1 : l.length ≤ 253) (h2 : l ≠ []) (h3 : numericL l = false) : vnL l = (splitL 46 l).all labL := by
  unfold vnL
  rw [decide_eq_true h2, decide_eq_true h1, h3]
  rfl
theorem all_drop {α : Type _} (p : α → Bool) : ∀ (l : List α) (k : Nat), (∀ x ∈ l.take k, p x = true) → l.all p = (l.drop k).all p
  | l, 0, _ => rfl
  | [], _ + 1, _ => rfl
  | a :: r, k + 1, h => by
    rw [List.all_cons, h a (by simp), Bool.true_and, List.drop_succ_cons]
    exact all_drop p r k fun x hx => h x (by simp [hx])

set_option maxRecDepth 20000 in
set_option maxHeartbeats 4000000 in
theorem refVn_any : HoVn 19 := by
  intro s w hs
  by_cases h0 : s.size = 0
  · have hnil : ls s = [] := List.eq_nil_of_length_eq_zero (by rw [ls_length]; exact h0)
    rw [hnil, show vnL [] = false from rfl]
    have he : (s.toList == ([] : List UInt8)) = true := by rw [toList_ls, hnil]; rfl
    have he' : s.toList.isEmpty = true := by rw [toList_ls, hnil]; rfl
    clear h0 hnil
    go_enter Tryz.func19, Tryz.ntmps19
    go_wp2
    go_ret
    exact ⟨rfl, Below.refl _ _⟩
  · have hne : ls s ≠ [] := fun e => h0 (by have := ls_length s; rw [e] at this; simpa using this.symm)
    have he : (s.toList == ([] : List UInt8)) = false := by rw [toList_ls]; exact beq_false_of_ne hne
    have he' : s.toList.isEmpty = false := by rw [toList_ls]; cases hx : ls s with
      | nil => exact absurd hx hne
      | cons _ _ => rfl
    by_cases h1 : 253 < s.size
    · have hV : vnL (ls s) = false := by
        unfold vnL
        rw [decide_eq_false (by rw [ls_length]; omega : ¬ (ls s).length ≤ 253)]
        simp
      have hd : decide ((253 : Int) < (s.size : Int)) = true := decide_eq_true (by omega)
      rw [hV]
      clear h0 hne hV
      go_enter Tryz.func19, Tryz.ntmps19
      go_wp2
      go_ret
      exact ⟨rfl, Below.refl _ _⟩
    · have hd : decide ((253 : Int) < (s.size : Int)) = false := decide_eq_false (by omega)
      have c1 := fun W => refNumeric_any s W hs
      cases hq : numericL (ls s) with
      | true =>
        have hV : vnL (ls s) = false := by unfold vnL; rw [hq]; simp
        rw [hq] at c1
        rw [hV]
        clear h0 hne hV hq
        go_enter Tryz.func19, Tryz.ntmps19
        go_wp2_with fail
        refine (c1 _).mono ?_
        rintro e w1 ⟨rfl, hb1⟩
        go_wp2
        go_ret
        exact ⟨rfl, hb1⟩
      | false =>
        have hV : vnL (ls s) = (splitL 46 (ls s)).all labL := vn_short (by rw [ls_length]; omega) hne hq
        rw [hq] at c1
        rw [hV]
        have c2 := fun W => refSplit_any s 46 W hs
        have hlen := splitL_length 46 (ls s)
        rw [ls_length] at hlen
        have hszs : ∀ x ∈ splitL 46 (ls s), x.length ≤ 1000000000 := fun x hx => by have := splitG_sizes 46 (ls s) [] x hx; rw [ls_length] at this; simp at this; omega
        have hpos := splitL_pos 46 (ls s)
        generalize splitL 46 (ls s) = P at *
        obtain ⟨R, hR⟩ : ∃ R, R = P.all labL := ⟨_, rfl⟩
        have HR := Lib.hid hR
        rw [← hR]
        clear h0 hne hV hq hR
        go_enter Tryz.func19, Tryz.ntmps19
        go_wp2_with fail
        refine (c1 _).mono ?_
        rintro e w1 ⟨rfl, hb1⟩
        go_wp2_with fail
        refine (c2 _).mono ?_
        rintro e w2 ⟨v, m, rfl, hown, hb2⟩
        obtain ⟨A, c, rfl, hh, hmc⟩ := Has.of_own hown
        have hm : m = P.length := by have := hh.1; rw [wv_length] at this; omega
        obtain ⟨b, off, rfl, _⟩ := str_cell hh 0 (by omega)
        have hb0 := hb1.trans (hb2.mono hb1.size)
        have HB := Lib.hid hb0
        have HH := Lib.hid hh
        have HM := Lib.hid hm
        have HSZ := Lib.hid hszs
        have hmb : m ≤ 1000000001 := by omega
        clear hm hh hszs hpos hown hb0 hb1 hb2 c1 c2 hlen
        go_wp2
        go_loopw [4] (fun i wr => ∃ k : Nat, k ≤ m ∧ i = .int .i64 k ∧ Hid (R = (P.drop k).all labL) ∧ Below w2.heap.size w2 wr) (fun i _ => m - (intOf i).toNat)
        case atStart => exact ⟨0, Nat.zero_le _, rfl, HR, Below.refl _ _⟩
        case round =>
          obtain ⟨k, hk, rfl, HK, hb3⟩ := hrel
          by_cases hlt : k < m
          · obtain ⟨b', off', e, hcell⟩ := str_cell (HH.out.below hb3) k hlt
            injection e with e
            injection e with e1 e2 _
            subst e1 e2
            have hkP : k < P.length := by rw [← HM.out]; exact hlt
            have hdr : P.drop k = P.getD k [] :: P.drop (k + 1) := by
              rw [List.drop_eq_getElem_cons hkP, List.getD_eq_getElem?_getD, List.getElem?_eq_getElem hkP, Option.getD_some]
            have hxs : (P.getD k []).length ≤ 1000000000 := HSZ.out _ (by rw [List.getD_eq_getElem?_getD, List.getElem?_eq_getElem hkP, Option.getD_some]; exact List.getElem_mem hkP)
            have HK2 := HK.out
            rw [hdr, List.all_cons] at HK2
            generalize P.getD k [] = x at *
            have c3 := fun W => refLab_any (bs x) W (by rw [bs_size]; exact hxs)
            simp only [ls_bs] at c3
            cases hx : labL x with
            | true =>
              rw [hx, Bool.true_and] at HK2
              have HN := Lib.hid HK2
              rw [hx] at c3
              clear hx HK2 hdr hkP hxs
              go_wp2_with (go_at_call 50; refine (c3 _).mono ?_; rintro e w4 ⟨rfl, hb4⟩)
              go_roundw
              case rel => exact ⟨k + 1, by omega, by go_num, HN, hb3.trans (hb4.mono hb3.size)⟩
              case measure => simp [intOf]; omega
            | false =>
              rw [hx, Bool.false_and] at HK2
              have HN := Lib.hid HK2
              rw [hx] at c3
              clear hx HK2 hdr hkP hxs
              go_wp2_with (go_at_call 50; refine (c3 _).mono ?_; rintro e w4 ⟨rfl, hb4⟩)
              go_ret
              exact ⟨ret_bool HN.out.symm, HB.out.trans ((hb3.trans (hb4.mono hb3.size)).mono HB.out.size)⟩
          · obtain rfl : k = m := by omega
            have HN : Hid (R = true) := by
              show _ = _
              rw [HK.out, List.drop_eq_nil_of_le (by have := HM.out; omega)]
              rfl
            go_wp2
            go_ret
            exact ⟨ret_bool HN.out.symm, HB.out.trans (hb3.mono HB.out.size)⟩
end

section
open Go.RowKit Go.Shelf

theorem zrow_cells {W : World} {B : Nat} (h : Row W B 25 #[.int .u16 0, .int .u16 0, .int .u16 0, .int .u16 0, .int .u16 0, .int .u16 0, .int .u16 0, .int .u16 0]) : W.cell? ⟨B, 0, none⟩ = some (.int .u16 0) ∧ W.cell? ⟨B, 1, none⟩ = some (.int .u16 0) ∧ W.cell? ⟨B, 2, none⟩ = some (.int .u16 0) ∧ W.cell? ⟨B, 3, none⟩ = some (.int .u16 0) ∧ W.cell? ⟨B, 4, none⟩ = some (.int .u16 0) ∧ W.cell? ⟨B, 5, none⟩ = some (.int .u16 0) ∧ W.cell? ⟨B, 6, none⟩ = some (.int .u16 0) ∧ W.cell? ⟨B, 7, none⟩ = some (.int .u16 0) :=
  ⟨Row.cell h (k := 0) (by simp), Row.cell h (k := 1) (by simp), Row.cell h (k := 2) (by simp), Row.cell h (k := 3) (by simp), Row.cell h (k := 4) (by simp), Row.cell h (k := 5) (by simp), Row.cell h (k := 6) (by simp), Row.cell h (k := 7) (by simp)⟩
set_option maxRecDepth 20000 in
set_option maxHeartbeats 4000000 in
theorem refValid_any : HoVal 14 := by
  intro h w hw hn
  obtain ⟨k, n, v, g⟩ := h
  obtain ⟨hv4, hg8, hg⟩ := hw
  simp only at hv4 hg8 hg hn
  obtain ⟨x0, x1, x2, x3, x4, x5, x6, x7, rfl⟩ := list8e g hg8
  have eV : (Hv.mk k n v [x0, x1, x2, x3, x4, x5, x6, x7]).val = .agg #[.int .i64 k, .string (bs n), .int .u32 (v : Nat), .int .u16 (x0 : Nat), .int .u16 (x1 : Nat), .int .u16 (x2 : Nat), .int .u16 (x3 : Nat), .int .u16 (x4 : Nat), .int .u16 (x5 : Nat), .int .u16 (x6 : Nat), .int .u16 (x7 : Nat)] := rfl
  rw [eV]
  have heq := eq_av [x0, x1, x2, x3, x4, x5, x6, x7] z8 rfl rfl
  rw [show av [x0, x1, x2, x3, x4, x5, x6, x7] = #[.int .u16 (x0 : Nat), .int .u16 (x1 : Nat), .int .u16 (x2 : Nat), .int .u16 (x3 : Nat), .int .u16 (x4 : Nat), .int .u16 (x5 : Nat), .int .u16 (x6 : Nat), .int .u16 (x7 : Nat)] from rfl, show av z8 = #[.int .u16 0, .int .u16 0, .int .u16 0, .int .u16 0, .int .u16 0, .int .u16 0, .int .u16 0, .int .u16 0] from rfl] at heq
  have c1 := fun W => refVn_any (bs n) W (by rw [bs_size]; exact hn)
  rw [ls_bs] at c1
  obtain ⟨N, hN⟩ : ∃ N, N = bs n := ⟨_, rfl⟩
  have hNe : (N.toList == ([] : List UInt8)) = n.isEmpty := by rw [hN, toList_ls, ls_bs]; cases n <;> rfl
  have hNe' : N.toList.isEmpty = n.isEmpty := by rw [hN, toList_ls, ls_bs]
  have hv' : (((v : Nat) : Int) == 0) = (v == 0) := by rw [Bool.eq_iff_iff]; simp
  have hv'' : decide (((v : Nat) : Int) = 0) = (v == 0) := by rw [Bool.eq_iff_iff]; simp
  have HV0 : Hid (∀ K : Int, validH ⟨K, n, v, [x0, x1, x2, x3, x4, x5, x6, x7]⟩ = if K = 1 then vnL n && v == 0 && decide ([x0, x1, x2, x3, x4, x5, x6, x7] = z8) else if K = 2 then n.isEmpty && decide ([x0, x1, x2, x3, x4, x5, x6, x7] = z8) else if K = 3 then n.isEmpty && v == 0 else false) := Lib.hid fun K => by
    unfold validH
    rw [show ([x0, x1, x2, x3, x4, x5, x6, x7] == z8) = decide ([x0, x1, x2, x3, x4, x5, x6, x7] = z8) by rw [Bool.eq_iff_iff, beq_iff_eq, decide_eq_true_iff]]
  simp only [← hN] at c1 ⊢
  generalize decide ([x0, x1, x2, x3, x4, x5, x6, x7] = z8) = q3 at *
  generalize (v == 0) = q2 at *
  generalize vnL n = q1 at *
  generalize n.isEmpty = q4 at *
  clear hN eV hn hg8 hv4
  have HG := Lib.hid hg
  clear hg HG
  by_cases k1 : k = 1
  · subst k1
    have HV : Hid (validH ⟨1, n, v, [x0, x1, x2, x3, x4, x5, x6, x7]⟩ = (q1 && q2 && q3)) := by
      show _ = _
      rw [HV0.out, if_pos rfl]
    clear HV0
    cases q1 with
    | false =>
      go_enter Tryz.func14, Tryz.ntmps14
      go_upto_region 2 with fail
      obtain ⟨W1, hW1⟩ : ∃ x, x = (w.alloc (.cells #[.int .i64 1, .string N, .int .u32 (v : Nat), .int .u16 (x0 : Nat), .int .u16 (x1 : Nat), .int .u16 (x2 : Nat), .int .u16 (x3 : Nat), .int .u16 (x4 : Nat), .int .u16 (x5 : Nat), .int .u16 (x6 : Nat), .int .u16 (x7 : Nat)] 27)).alloc (.cells #[.int .u16 0, .int .u16 0, .int .u16 0, .int .u16 0, .int .u16 0, .int .u16 0, .int .u16 0, .int .u16 0] 25) := ⟨_, rfl⟩
      have hb1 : Below w.heap.size w W1 := by rw [hW1]; exact ((Below.refl _ _).alloc (Nat.le_refl _) _).alloc (by simp) _
      have hr1 : RowH W1 w.heap.size #[.int .i64 1, .string N, .int .u32 (v : Nat), .int .u16 (x0 : Nat), .int .u16 (x1 : Nat), .int .u16 (x2 : Nat), .int .u16 (x3 : Nat), .int .u16 (x4 : Nat), .int .u16 (x5 : Nat), .int .u16 (x6 : Nat), .int .u16 (x7 : Nat)] := by rw [hW1]; exact Row.grown0 (row_new w _ _) (World.grownBy_alloc _ _ none)
      have hz1 : Row W1 (w.heap.size + 1) 25 #[.int .u16 0, .int .u16 0, .int .u16 0, .int .u16 0, .int .u16 0, .int .u16 0, .int .u16 0, .int .u16 0] := by
        rw [hW1]
        have := row_new (w.alloc (.cells #[.int .i64 1, .string N, .int .u32 (v : Nat), .int .u16 (x0 : Nat), .int .u16 (x1 : Nat), .int .u16 (x2 : Nat), .int .u16 (x3 : Nat), .int .u16 (x4 : Nat), .int .u16 (x5 : Nat), .int .u16 (x6 : Nat), .int .u16 (x7 : Nat)] 27)) #[.int .u16 0, .int .u16 0, .int .u16 0, .int .u16 0, .int .u16 0, .int .u16 0, .int .u16 0, .int .u16 0] 25
        rw [World.size_alloc] at this
        exact this
      rw [← hW1]
      clear hW1
      obtain ⟨p0, p1, p2, p3, p4, p5, p6, p7, p8, p9, p10⟩ := rowh_cells hr1
      obtain ⟨z0, z1, z2, z3, z4, z5, z6, z7⟩ := zrow_cells hz1
      go_wp2_with (go_at_call 19; refine (c1 _).mono ?_; rintro e w2 ⟨rfl, hb2⟩; replace hr1 := Row.below hr1 hb2 hr1.lt; replace hz1 := Row.below hz1 hb2 hz1.lt; replace hb1 := hb1.trans (hb2.mono hb1.size); clear c1 hb2 p0 p1 p2 p3 p4 p5 p6 p7 p8 p9 p10 z0 z1 z2 z3 z4 z5 z6 z7; obtain ⟨p0, p1, p2, p3, p4, p5, p6, p7, p8, p9, p10⟩ := rowh_cells hr1; obtain ⟨z0, z1, z2, z3, z4, z5, z6, z7⟩ := zrow_cells hz1)
      go_wp2
      go_ret
      exact ⟨ret_bool (by rw [HV.out]; simp), hb1⟩
    | true =>
      cases q2 with
      | false =>
        go_enter Tryz.func14, Tryz.ntmps14
        go_upto_region 2 with fail
        obtain ⟨W1, hW1⟩ : ∃ x, x = (w.alloc (.cells #[.int .i64 1, .string N, .int .u32 (v : Nat), .int .u16 (x0 : Nat), .int .u16 (x1 : Nat), .int .u16 (x2 : Nat), .int .u16 (x3 : Nat), .int .u16 (x4 : Nat), .int .u16 (x5 : Nat), .int .u16 (x6 : Nat), .int .u16 (x7 : Nat)] 27)).alloc (.cells #[.int .u16 0, .int .u16 0, .int .u16 0, .int .u16 0, .int .u16 0, .int .u16 0, .int .u16 0, .int .u16 0] 25) := ⟨_, rfl⟩
        have hb1 : Below w.heap.size w W1 := by rw [hW1]; exact ((Below.refl _ _).alloc (Nat.le_refl _) _).alloc (by simp) _
        have hr1 : RowH W1 w.heap.size #[.int .i64 1, .string N, .int .u32 (v : Nat), .int .u16 (x0 : Nat), .int .u16 (x1 : Nat), .int .u16 (x2 : Nat), .int .u16 (x3 : Nat), .int .u16 (x4 : Nat), .int .u16 (x5 : Nat), .int .u16 (x6 : Nat), .int .u16 (x7 : Nat)] := by rw [hW1]; exact Row.grown0 (row_new w _ _) (World.grownBy_alloc _ _ none)
        have hz1 : Row W1 (w.heap.size + 1) 25 #[.int .u16 0, .int .u16 0, .int .u16 0, .int .u16 0, .int .u16 0, .int .u16 0, .int .u16 0, .int .u16 0] := by
          rw [hW1]
          have := row_new (w.alloc (.cells #[.int .i64 1, .string N, .int .u32 (v : Nat), .int .u16 (x0 : Nat), .int .u16 (x1 : Nat), .int .u16 (x2 : Nat), .int .u16 (x3 : Nat), .int .u16 (x4 : Nat), .int .u16 (x5 : Nat), .int .u16 (x6 : Nat), .int .u16 (x7 : Nat)] 27)) #[.int .u16 0, .int .u16 0, .int .u16 0, .int .u16 0, .int .u16 0, .int .u16 0, .int .u16 0, .int .u16 0] 25
          rw [World.size_alloc] at this
          exact this
        rw [← hW1]
        clear hW1
        obtain ⟨p0, p1, p2, p3, p4, p5, p6, p7, p8, p9, p10⟩ := rowh_cells hr1
        obtain ⟨z0, z1, z2, z3, z4, z5, z6, z7⟩ := zrow_cells hz1
        go_wp2_with (go_at_call 19; refine (c1 _).mono ?_; rintro e w2 ⟨rfl, hb2⟩; replace hr1 := Row.below hr1 hb2 hr1.lt; replace hz1 := Row.below hz1 hb2 hz1.lt; replace hb1 := hb1.trans (hb2.mono hb1.size); clear c1 hb2 p0 p1 p2 p3 p4 p5 p6 p7 p8 p9 p10 z0 z1 z2 z3 z4 z5 z6 z7; obtain ⟨p0, p1, p2, p3, p4, p5, p6, p7, p8, p9, p10⟩ := rowh_cells hr1; obtain ⟨z0, z1, z2, z3, z4, z5, z6, z7⟩ := zrow_cells hz1)
        go_wp2
        go_ret
        exact ⟨ret_bool (by rw [HV.out]; simp), hb1⟩
      | true =>
        go_enter Tryz.func14, Tryz.ntmps14
        go_upto_region 2 with fail
        obtain ⟨W1, hW1⟩ : ∃ x, x = (w.alloc (.cells #[.int .i64 1, .string N, .int .u32 (v : Nat), .int .u16 (x0 : Nat), .int .u16 (x1 : Nat), .int .u16 (x2 : Nat), .int .u16 (x3 : Nat), .int .u16 (x4 : Nat), .int .u16 (x5 : Nat), .int .u16 (x6 : Nat), .int .u16 (x7 : Nat)] 27)).alloc (.cells #[.int .u16 0, .int .u16 0, .int .u16 0, .int .u16 0, .int .u16 0, .int .u16 0, .int .u16 0, .int .u16 0] 25) := ⟨_, rfl⟩
        have hb1 : Below w.heap.size w W1 := by rw [hW1]; exact ((Below.refl _ _).alloc (Nat.le_refl _) _).alloc (by simp) _
        have hr1 : RowH W1 w.heap.size #[.int .i64 1, .string N, .int .u32 (v : Nat), .int .u16 (x0 : Nat), .int .u16 (x1 : Nat), .int .u16 (x2 : Nat), .int .u16 (x3 : Nat), .int .u16 (x4 : Nat), .int .u16 (x5 : Nat), .int .u16 (x6 : Nat), .int .u16 (x7 : Nat)] := by rw [hW1]; exact Row.grown0 (row_new w _ _) (World.grownBy_alloc _ _ none)
        have hz1 : Row W1 (w.heap.size + 1) 25 #[.int .u16 0, .int .u16 0, .int .u16 0, .int .u16 0, .int .u16 0, .int .u16 0, .int .u16 0, .int .u16 0] := by
          rw [hW1]
          have := row_new (w.alloc (.cells #[.int .i64 1, .string N, .int .u32 (v : Nat), .int .u16 (x0 : Nat), .int .u16 (x1 : Nat), .int .u16 (x2 : Nat), .int .u16 (x3 : Nat), .int .u16 (x4 : Nat), .int .u16 (x5 : Nat), .int .u16 (x6 : Nat), .int .u16 (x7 : Nat)] 27)) #[.int .u16 0, .int .u16 0, .int .u16 0, .int .u16 0, .int .u16 0, .int .u16 0, .int .u16 0, .int .u16 0] 25
          rw [World.size_alloc] at this
          exact this
        rw [← hW1]
        clear hW1
        obtain ⟨p0, p1, p2, p3, p4, p5, p6, p7, p8, p9, p10⟩ := rowh_cells hr1
        obtain ⟨z0, z1, z2, z3, z4, z5, z6, z7⟩ := zrow_cells hz1
        go_wp2_with (go_at_call 19; refine (c1 _).mono ?_; rintro e w2 ⟨rfl, hb2⟩; replace hr1 := Row.below hr1 hb2 hr1.lt; replace hz1 := Row.below hz1 hb2 hz1.lt; replace hb1 := hb1.trans (hb2.mono hb1.size); clear c1 hb2 p0 p1 p2 p3 p4 p5 p6 p7 p8 p9 p10 z0 z1 z2 z3 z4 z5 z6 z7; obtain ⟨p0, p1, p2, p3, p4, p5, p6, p7, p8, p9, p10⟩ := rowh_cells hr1; obtain ⟨z0, z1, z2, z3, z4, z5, z6, z7⟩ := zrow_cells hz1)
        go_wp2
        go_ret
        exact ⟨ret_bool (by rw [HV.out]; simp), hb1⟩
  · by_cases k2 : k = 2
    · subst k2
      have HV : Hid (validH ⟨2, n, v, [x0, x1, x2, x3, x4, x5, x6, x7]⟩ = (q4 && q3)) := by
        show _ = _
        rw [HV0.out, if_neg (by decide), if_pos rfl]
      clear HV0
      clear c1 k1
      cases q4 with
      | false =>
        go_enter Tryz.func14, Tryz.ntmps14
        go_upto_region 2 with fail
        obtain ⟨W1, hW1⟩ : ∃ x, x = (w.alloc (.cells #[.int .i64 2, .string N, .int .u32 (v : Nat), .int .u16 (x0 : Nat), .int .u16 (x1 : Nat), .int .u16 (x2 : Nat), .int .u16 (x3 : Nat), .int .u16 (x4 : Nat), .int .u16 (x5 : Nat), .int .u16 (x6 : Nat), .int .u16 (x7 : Nat)] 27)).alloc (.cells #[.int .u16 0, .int .u16 0, .int .u16 0, .int .u16 0, .int .u16 0, .int .u16 0, .int .u16 0, .int .u16 0] 25) := ⟨_, rfl⟩
        have hb1 : Below w.heap.size w W1 := by rw [hW1]; exact ((Below.refl _ _).alloc (Nat.le_refl _) _).alloc (by simp) _
        have hr1 : RowH W1 w.heap.size #[.int .i64 2, .string N, .int .u32 (v : Nat), .int .u16 (x0 : Nat), .int .u16 (x1 : Nat), .int .u16 (x2 : Nat), .int .u16 (x3 : Nat), .int .u16 (x4 : Nat), .int .u16 (x5 : Nat), .int .u16 (x6 : Nat), .int .u16 (x7 : Nat)] := by rw [hW1]; exact Row.grown0 (row_new w _ _) (World.grownBy_alloc _ _ none)
        have hz1 : Row W1 (w.heap.size + 1) 25 #[.int .u16 0, .int .u16 0, .int .u16 0, .int .u16 0, .int .u16 0, .int .u16 0, .int .u16 0, .int .u16 0] := by
          rw [hW1]
          have := row_new (w.alloc (.cells #[.int .i64 2, .string N, .int .u32 (v : Nat), .int .u16 (x0 : Nat), .int .u16 (x1 : Nat), .int .u16 (x2 : Nat), .int .u16 (x3 : Nat), .int .u16 (x4 : Nat), .int .u16 (x5 : Nat), .int .u16 (x6 : Nat), .int .u16 (x7 : Nat)] 27)) #[.int .u16 0, .int .u16 0, .int .u16 0, .int .u16 0, .int .u16 0, .int .u16 0, .int .u16 0, .int .u16 0] 25
          rw [World.size_alloc] at this
          exact this
        rw [← hW1]
        clear hW1
        obtain ⟨p0, p1, p2, p3, p4, p5, p6, p7, p8, p9, p10⟩ := rowh_cells hr1
        obtain ⟨z0, z1, z2, z3, z4, z5, z6, z7⟩ := zrow_cells hz1
        go_wp2
        go_ret
        exact ⟨ret_bool (by rw [HV.out]; simp), hb1⟩
      | true =>
        go_enter Tryz.func14, Tryz.ntmps14
        go_upto_region 2 with fail
        obtain ⟨W1, hW1⟩ : ∃ x, x = (w.alloc (.cells #[.int .i64 2, .string N, .int .u32 (v : Nat), .int .u16 (x0 : Nat), .int .u16 (x1 : Nat), .int .u16 (x2 : Nat), .int .u16 (x3 : Nat), .int .u16 (x4 : Nat), .int .u16 (x5 : Nat), .int .u16 (x6 : Nat), .int .u16 (x7 : Nat)] 27)).alloc (.cells #[.int .u16 0, .int .u16 0, .int .u16 0, .int .u16 0, .int .u16 0, .int .u16 0, .int .u16 0, .int .u16 0] 25) := ⟨_, rfl⟩
        have hb1 : Below w.heap.size w W1 := by rw [hW1]; exact ((Below.refl _ _).alloc (Nat.le_refl _) _).alloc (by simp) _
        have hr1 : RowH W1 w.heap.size #[.int .i64 2, .string N, .int .u32 (v : Nat), .int .u16 (x0 : Nat), .int .u16 (x1 : Nat), .int .u16 (x2 : Nat), .int .u16 (x3 : Nat), .int .u16 (x4 : Nat), .int .u16 (x5 : Nat), .int .u16 (x6 : Nat), .int .u16 (x7 : Nat)] := by rw [hW1]; exact Row.grown0 (row_new w _ _) (World.grownBy_alloc _ _ none)
        have hz1 : Row W1 (w.heap.size + 1) 25 #[.int .u16 0, .int .u16 0, .int .u16 0, .int .u16 0, .int .u16 0, .int .u16 0, .int .u16 0, .int .u16 0] := by
          rw [hW1]
          have := row_new (w.alloc (.cells #[.int .i64 2, .string N, .int .u32 (v : Nat), .int .u16 (x0 : Nat), .int .u16 (x1 : Nat), .int .u16 (x2 : Nat), .int .u16 (x3 : Nat), .int .u16 (x4 : Nat), .int .u16 (x5 : Nat), .int .u16 (x6 : Nat), .int .u16 (x7 : Nat)] 27)) #[.int .u16 0, .int .u16 0, .int .u16 0, .int .u16 0, .int .u16 0, .int .u16 0, .int .u16 0, .int .u16 0] 25
          rw [World.size_alloc] at this
          exact this
        rw [← hW1]
        clear hW1
        obtain ⟨p0, p1, p2, p3, p4, p5, p6, p7, p8, p9, p10⟩ := rowh_cells hr1
        obtain ⟨z0, z1, z2, z3, z4, z5, z6, z7⟩ := zrow_cells hz1
        go_wp2
        go_ret
        exact ⟨ret_bool (by rw [HV.out]; simp), hb1⟩
    · by_cases k3 : k = 3
      · subst k3
        have HV : Hid (validH ⟨3, n, v, [x0, x1, x2, x3, x4, x5, x6, x7]⟩ = (q4 && q2)) := by
          show _ = _
          rw [HV0.out, if_neg (by decide), if_neg (by decide), if_pos rfl]
        clear HV0
        clear c1 k1 k2
        cases q4 with
        | false =>
          go_enter Tryz.func14, Tryz.ntmps14
          go_upto_region 2 with fail
          obtain ⟨W1, hW1⟩ : ∃ x, x = (w.alloc (.cells #[.int .i64 3, .string N, .int .u32 (v : Nat), .int .u16 (x0 : Nat), .int .u16 (x1 : Nat), .int .u16 (x2 : Nat), .int .u16 (x3 : Nat), .int .u16 (x4 : Nat), .int .u16 (x5 : Nat), .int .u16 (x6 : Nat), .int .u16 (x7 : Nat)] 27)).alloc (.cells #[.int .u16 0, .int .u16 0, .int .u16 0, .int .u16 0, .int .u16 0, .int .u16 0, .int .u16 0, .int .u16 0] 25) := ⟨_, rfl⟩
          have hb1 : Below w.heap.size w W1 := by rw [hW1]; exact ((Below.refl _ _).alloc (Nat.le_refl _) _).alloc (by simp) _
          have hr1 : RowH W1 w.heap.size #[.int .i64 3, .string N, .int .u32 (v : Nat), .int .u16 (x0 : Nat), .int .u16 (x1 : Nat), .int .u16 (x2 : Nat), .int .u16 (x3 : Nat), .int .u16 (x4 : Nat), .int .u16 (x5 : Nat), .int .u16 (x6 : Nat), .int .u16 (x7 : Nat)] := by rw [hW1]; exact Row.grown0 (row_new w _ _) (World.grownBy_alloc _ _ none)
          have hz1 : Row W1 (w.heap.size + 1) 25 #[.int .u16 0, .int .u16 0, .int .u16 0, .int .u16 0, .int .u16 0, .int .u16 0, .int .u16 0, .int .u16 0] := by
            rw [hW1]
            have := row_new (w.alloc (.cells #[.int .i64 3, .string N, .int .u32 (v : Nat), .int .u16 (x0 : Nat), .int .u16 (x1 : Nat), .int .u16 (x2 : Nat), .int .u16 (x3 : Nat), .int .u16 (x4 : Nat), .int .u16 (x5 : Nat), .int .u16 (x6 : Nat), .int .u16 (x7 : Nat)] 27)) #[.int .u16 0, .int .u16 0, .int .u16 0, .int .u16 0, .int .u16 0, .int .u16 0, .int .u16 0, .int .u16 0] 25
            rw [World.size_alloc] at this
            exact this
          rw [← hW1]
          clear hW1
          obtain ⟨p0, p1, p2, p3, p4, p5, p6, p7, p8, p9, p10⟩ := rowh_cells hr1
          obtain ⟨z0, z1, z2, z3, z4, z5, z6, z7⟩ := zrow_cells hz1
          go_wp2
          go_ret
          exact ⟨ret_bool (by rw [HV.out]; simp), hb1⟩
        | true =>
          go_enter Tryz.func14, Tryz.ntmps14
          go_upto_region 2 with fail
          obtain ⟨W1, hW1⟩ : ∃ x, x = (w.alloc (.cells #[.int .i64 3, .string N, .int .u32 (v : Nat), .int .u16 (x0 : Nat), .int .u16 (x1 : Nat), .int .u16 (x2 : Nat), .int .u16 (x3 : Nat), .int .u16 (x4 : Nat), .int .u16 (x5 : Nat), .int .u16 (x6 : Nat), .int .u16 (x7 : Nat)] 27)).alloc (.cells #[.int .u16 0, .int .u16 0, .int .u16 0, .int .u16 0, .int .u16 0, .int .u16 0, .int .u16 0, .int .u16 0] 25) := ⟨_, rfl⟩
          have hb1 : Below w.heap.size w W1 := by rw [hW1]; exact ((Below.refl _ _).alloc (Nat.le_refl _) _).alloc (by simp) _
          have hr1 : RowH W1 w.heap.size #[.int .i64 3, .string N, .int .u32 (v : Nat), .int .u16 (x0 : Nat), .int .u16 (x1 : Nat), .int .u16 (x2 : Nat), .int .u16 (x3 : Nat), .int .u16 (x4 : Nat), .int .u16 (x5 : Nat), .int .u16 (x6 : Nat), .int .u16 (x7 : Nat)] := by rw [hW1]; exact Row.grown0 (row_new w _ _) (World.grownBy_alloc _ _ none)
          have hz1 : Row W1 (w.heap.size + 1) 25 #[.int .u16 0, .int .u16 0, .int .u16 0, .int .u16 0, .int .u16 0, .int .u16 0, .int .u16 0, .int .u16 0] := by
            rw [hW1]
            have := row_new (w.alloc (.cells #[.int .i64 3, .string N, .int .u32 (v : Nat), .int .u16 (x0 : Nat), .int .u16 (x1 : Nat), .int .u16 (x2 : Nat), .int .u16 (x3 : Nat), .int .u16 (x4 : Nat), .int .u16 (x5 : Nat), .int .u16 (x6 : Nat), .int .u16 (x7 : Nat)] 27)) #[.int .u16 0, .int .u16 0, .int .u16 0, .int .u16 0, .int .u16 0, .int .u16 0, .int .u16 0, .int .u16 0] 25
            rw [World.size_alloc] at this
            exact this
          rw [← hW1]
          clear hW1
          obtain ⟨p0, p1, p2, p3, p4, p5, p6, p7, p8, p9, p10⟩ := rowh_cells hr1
          obtain ⟨z0, z1, z2, z3, z4, z5, z6, z7⟩ := zrow_cells hz1
          go_wp2
          go_ret
          exact ⟨ret_bool (by rw [HV.out]; simp), hb1⟩
      · skip
        have HV : Hid (validH ⟨k, n, v, [x0, x1, x2, x3, x4, x5, x6, x7]⟩ = false) := by
          show _ = _
          rw [HV0.out, if_neg k1, if_neg k2, if_neg k3]
        clear HV0
        have t1 : (k == 1) = false := by rw [beq_eq_false_iff_ne]; assumption
        have t2 : (k == 2) = false := by rw [beq_eq_false_iff_ne]; assumption
        have t3 : (k == 3) = false := by rw [beq_eq_false_iff_ne]; assumption
        clear c1 k1 k2 k3
        go_enter Tryz.func14, Tryz.ntmps14
        go_upto_region 2 with fail
        obtain ⟨W1, hW1⟩ : ∃ x, x = (w.alloc (.cells #[.int .i64 k, .string N, .int .u32 (v : Nat), .int .u16 (x0 : Nat), .int .u16 (x1 : Nat), .int .u16 (x2 : Nat), .int .u16 (x3 : Nat), .int .u16 (x4 : Nat), .int .u16 (x5 : Nat), .int .u16 (x6 : Nat), .int .u16 (x7 : Nat)] 27)).alloc (.cells #[.int .u16 0, .int .u16 0, .int .u16 0, .int .u16 0, .int .u16 0, .int .u16 0, .int .u16 0, .int .u16 0] 25) := ⟨_, rfl⟩
        have hb1 : Below w.heap.size w W1 := by rw [hW1]; exact ((Below.refl _ _).alloc (Nat.le_refl _) _).alloc (by simp) _
        have hr1 : RowH W1 w.heap.size #[.int .i64 k, .string N, .int .u32 (v : Nat), .int .u16 (x0 : Nat), .int .u16 (x1 : Nat), .int .u16 (x2 : Nat), .int .u16 (x3 : Nat), .int .u16 (x4 : Nat), .int .u16 (x5 : Nat), .int .u16 (x6 : Nat), .int .u16 (x7 : Nat)] := by rw [hW1]; exact Row.grown0 (row_new w _ _) (World.grownBy_alloc _ _ none)
        have hz1 : Row W1 (w.heap.size + 1) 25 #[.int .u16 0, .int .u16 0, .int .u16 0, .int .u16 0, .int .u16 0, .int .u16 0, .int .u16 0, .int .u16 0] := by
          rw [hW1]
          have := row_new (w.alloc (.cells #[.int .i64 k, .string N, .int .u32 (v : Nat), .int .u16 (x0 : Nat), .int .u16 (x1 : Nat), .int .u16 (x2 : Nat), .int .u16 (x3 : Nat), .int .u16 (x4 : Nat), .int .u16 (x5 : Nat), .int .u16 (x6 : Nat), .int .u16 (x7 : Nat)] 27)) #[.int .u16 0, .int .u16 0, .int .u16 0, .int .u16 0, .int .u16 0, .int .u16 0, .int .u16 0, .int .u16 0] 25
          rw [World.size_alloc] at this
          exact this
        rw [← hW1]
        clear hW1
        obtain ⟨p0, p1, p2, p3, p4, p5, p6, p7, p8, p9, p10⟩ := rowh_cells hr1
        obtain ⟨z0, z1, z2, z3, z4, z5, z6, z7⟩ := zrow_cells hz1
        go_wp2
        go_ret
        exact ⟨ret_bool (by rw [HV.out]), hb1⟩

set_option maxRecDepth 20000 in
set_option maxHeartbeats 4000000 in
theorem refFmt_host (hVal : HoVal 14) (hF4 : HoF4 48) (hF6 : P6Fmt 49) : HoFmt 16 := by
  intro h w hw hn hp6
  cases hval : validH h with
  | false =>
    rw [fmt_no hval]
    obtain ⟨k, n, v, g⟩ := h
    obtain ⟨x0, x1, x2, x3, x4, x5, x6, x7, rfl⟩ := list8e g hw.2.1
    have c1 := fun W => hVal ⟨k, n, v, [x0, x1, x2, x3, x4, x5, x6, x7]⟩ W hw hn
    rw [hval] at c1
    have eV : (Hv.mk k n v [x0, x1, x2, x3, x4, x5, x6, x7]).val = .agg #[.int .i64 k, .string (bs n), .int .u32 (v : Nat), .int .u16 (x0 : Nat), .int .u16 (x1 : Nat), .int .u16 (x2 : Nat), .int .u16 (x3 : Nat), .int .u16 (x4 : Nat), .int .u16 (x5 : Nat), .int .u16 (x6 : Nat), .int .u16 (x7 : Nat)] := rfl
    rw [eV] at c1 ⊢
    have hr : RowH (w.alloc (.cells #[.int .i64 k, .string (bs n), .int .u32 (v : Nat), .int .u16 (x0 : Nat), .int .u16 (x1 : Nat), .int .u16 (x2 : Nat), .int .u16 (x3 : Nat), .int .u16 (x4 : Nat), .int .u16 (x5 : Nat), .int .u16 (x6 : Nat), .int .u16 (x7 : Nat)] 27)) w.heap.size _ := row_new w _ _
    generalize bs n = N at *
    clear eV hval hw hn hp6
    go_enter Tryz.func16, Tryz.ntmps16
    go_wp2_with (refine wpList_load_host rfl _ rfl w.heap.size (by exact rfl) _ hr rfl ?_)
    refine (c1 _).mono ?_
    rintro e w1 ⟨rfl, hb1⟩
    replace hb1 := ((Below.refl _ w).alloc (Nat.le_refl _) _).trans (hb1.mono (by simp))
    go_wp2
    go_ret
    exact ⟨rfl, hb1⟩
  | true =>
    rw [fmt_yes hval]
    rcases valid_kinds hval with ⟨_, e⟩ | e | e
    · obtain ⟨n, hn1⟩ : ∃ n, n = h.name := ⟨_, rfl⟩
      rw [← hn1] at e
      subst e
      have c1 := fun W => hVal (hvD n) W hw hn
      rw [hval] at c1
      have eV : (hvD n).val = .agg #[.int .i64 1, .string (bs n), .int .u32 0, .int .u16 0, .int .u16 0, .int .u16 0, .int .u16 0, .int .u16 0, .int .u16 0, .int .u16 0, .int .u16 0] := rfl
      have eT : fmtT (hvD n) = n := rfl
      rw [eT]
      rw [eV] at c1 ⊢
      have hr : RowH (w.alloc (.cells #[.int .i64 1, .string (bs n), .int .u32 0, .int .u16 0, .int .u16 0, .int .u16 0, .int .u16 0, .int .u16 0, .int .u16 0, .int .u16 0, .int .u16 0] 27)) w.heap.size _ := row_new w _ _
      clear hn1
      generalize bs n = N at *
      clear eV hval hw hn hp6
      go_enter Tryz.func16, Tryz.ntmps16
      go_wp2_with (refine wpList_load_host rfl _ rfl w.heap.size (by exact rfl) _ hr rfl ?_)
      refine (c1 _).mono ?_
      rintro e w1 ⟨rfl, hb1⟩
      have hr1 := Row.below hr hb1 hr.lt
      replace hb1 := ((Below.refl _ w).alloc (Nat.le_refl _) _).trans (hb1.mono (by simp))
      have p0 := Row.cell hr1 (k := 0) (by simp)
      have p1 := Row.cell hr1 (k := 1) (by simp)
      simp only [List.getElem_toArray, List.getElem_cons_zero, List.getElem_cons_succ] at p0 p1
      go_wp2
      go_ret
      exact ⟨rfl, hb1⟩
    · obtain ⟨v, hv1⟩ : ∃ v, v = h.v4 := ⟨_, rfl⟩
      rw [← hv1] at e
      subst e
      have c1 := fun W => hVal (hv4 v) W hw hn
      rw [hval] at c1
      have eV : (hv4 v).val = .agg #[.int .i64 2, .string ⟨#[]⟩, .int .u32 (v : Nat), .int .u16 0, .int .u16 0, .int .u16 0, .int .u16 0, .int .u16 0, .int .u16 0, .int .u16 0, .int .u16 0] := rfl
      have eT : fmtT (hv4 v) = fmtI v := rfl
      rw [eT]
      rw [eV] at c1 ⊢
      have hr : RowH (w.alloc (.cells #[.int .i64 2, .string ⟨#[]⟩, .int .u32 (v : Nat), .int .u16 0, .int .u16 0, .int .u16 0, .int .u16 0, .int .u16 0, .int .u16 0, .int .u16 0, .int .u16 0] 27)) w.heap.size _ := row_new w _ _
      have hv9 : v < 4294967296 := hw.1
      have c2 := fun W hW => hF4 (v : Nat) (by omega) (by omega) W hW
      simp only [show ((v : Nat) : Int).toNat = v from rfl] at c2
      generalize bs (fmtI v) = N at *
      have HP := Lib.hid hp6
      clear eV hval hw hn hp6 hv1
      go_enter Tryz.func16, Tryz.ntmps16
      go_wp2_with (refine wpList_load_host rfl _ rfl w.heap.size (by exact rfl) _ hr rfl ?_)
      refine (c1 _).mono ?_
      rintro e w1 ⟨rfl, hb1⟩
      have hr1 := Row.below hr hb1 hr.lt
      replace hb1 := ((Below.refl _ w).alloc (Nat.le_refl _) _).trans (hb1.mono (by simp))
      have p0 := Row.cell hr1 (k := 0) (by simp)
      have p2 := Row.cell hr1 (k := 2) (by simp)
      simp only [List.getElem_toArray, List.getElem_cons_zero, List.getElem_cons_succ] at p0 p2
      have c3 := c2 w1 (pow6_below HP.out hb1).1
      go_wp2_with fail
      refine c3.mono ?_
      rintro e w2 ⟨rfl, hb2⟩
      go_wp2
      go_ret
      exact ⟨rfl, hb1.trans (hb2.mono hb1.size)⟩
    · obtain ⟨g, hg1⟩ : ∃ g, g = h.v6 := ⟨_, rfl⟩
      rw [← hg1] at e
      subst e
      have hg8 : g.length = 8 := hw.2.1
      have c2 := fun W hW => hF6 g hg8 hw.2.2 W hW
      obtain ⟨x0, x1, x2, x3, x4, x5, x6, x7, rfl⟩ := list8e g hg8
      have c1 := fun W => hVal (hv6 [x0, x1, x2, x3, x4, x5, x6, x7]) W hw hn
      rw [hval] at c1
      have eV : (hv6 [x0, x1, x2, x3, x4, x5, x6, x7]).val = .agg #[.int .i64 3, .string ⟨#[]⟩, .int .u32 0, .int .u16 (x0 : Nat), .int .u16 (x1 : Nat), .int .u16 (x2 : Nat), .int .u16 (x3 : Nat), .int .u16 (x4 : Nat), .int .u16 (x5 : Nat), .int .u16 (x6 : Nat), .int .u16 (x7 : Nat)] := rfl
      have eT : fmtT (hv6 [x0, x1, x2, x3, x4, x5, x6, x7]) = 91 :: (fmt6 [x0, x1, x2, x3, x4, x5, x6, x7] ++ [93]) := rfl
      have e1 : av [x0, x1, x2, x3, x4, x5, x6, x7] = #[.int .u16 (x0 : Nat), .int .u16 (x1 : Nat), .int .u16 (x2 : Nat), .int .u16 (x3 : Nat), .int .u16 (x4 : Nat), .int .u16 (x5 : Nat), .int .u16 (x6 : Nat), .int .u16 (x7 : Nat)] := rfl
      rw [eT]
      rw [eV] at c1 ⊢
      simp only [e1] at c2
      have hr : RowH (w.alloc (.cells #[.int .i64 3, .string ⟨#[]⟩, .int .u32 0, .int .u16 (x0 : Nat), .int .u16 (x1 : Nat), .int .u16 (x2 : Nat), .int .u16 (x3 : Nat), .int .u16 (x4 : Nat), .int .u16 (x5 : Nat), .int .u16 (x6 : Nat), .int .u16 (x7 : Nat)] 27)) w.heap.size _ := row_new w _ _
      have HF : Hid (bs (91 :: (fmt6 [x0, x1, x2, x3, x4, x5, x6, x7] ++ [93])) = (⟨#[91]⟩ : ByteArray) ++ bs (fmt6 [x0, x1, x2, x3, x4, x5, x6, x7]) ++ ⟨#[93]⟩) := by
        show _ = _
        refine ls_inj ?_
        rw [ls_append, ls_append, ls_bs, ls_bs]
        rfl
      have hN9 : (bs (fmt6 [x0, x1, x2, x3, x4, x5, x6, x7])).size ≤ 82 := by rw [bs_size]; exact fmt6_len hw.2.2
      rw [HF.out]
      generalize bs (fmt6 [x0, x1, x2, x3, x4, x5, x6, x7]) = N at *
      have HP := Lib.hid hp6
      clear eV hval hw hn hp6 hg1 HF eT hg8 e1
      go_enter Tryz.func16, Tryz.ntmps16
      go_wp2_with (refine wpList_load_host rfl _ rfl w.heap.size (by exact rfl) _ hr rfl ?_)
      refine (c1 _).mono ?_
      rintro e w1 ⟨rfl, hb1⟩
      have hr1 := Row.below hr hb1 hr.lt
      replace hb1 := ((Below.refl _ w).alloc (Nat.le_refl _) _).trans (hb1.mono (by simp))
      obtain ⟨p0, p1, p2, p3, p4, p5, p6, p7, p8, p9, p10⟩ := rowh_cells (k := 3) (N := ⟨#[]⟩) (v := 0) hr1
      have c3 := c2 w1 (pow6_below HP.out hb1)
      go_wp2_with fail
      refine c3.mono ?_
      rintro e w2 ⟨rfl, hb2⟩
      go_wp2
      go_ret
      exact ⟨rfl, hb1.trans (hb2.mono hb1.size)⟩

theorem refFmt_any : HoFmt 16 :=
  refFmt_host refValid_any (fun v h0 h1 w _ => refFormat_any v h0 h1 w) (fun a ha hg w _ => refFormat6_any a ha hg w)
end

end Go.Proofs.YtdplgbaneggenaaGreatDoor
