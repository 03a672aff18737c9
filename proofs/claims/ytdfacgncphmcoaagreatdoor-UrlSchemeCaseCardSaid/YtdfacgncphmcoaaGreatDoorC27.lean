/-
The law of the upgrade of URLs (written by tools/gen-UrM.py).
-/
import Derived.Test.YtdfacgncphmcoaaGreatDoorC26
namespace Go.Proofs.YtdfacgncphmcoaaGreatDoor
section
open Go.RowKit Go.Shelf
theorem up_port {u : Uv} (hi : insL u.scheme = true) : (if (upU u).port = -1 then stdP (upU u).scheme else (upU u).port) = (if u.port = -1 then 443 else u.port) := by
  unfold upU
  rw [if_pos hi]
  show (if (if u.port = 443 then -1 else u.port) = -1 then stdP (secL u.scheme) else (if u.port = 443 then -1 else u.port)) = _
  rw [(sec_facts _ hi).2.2.2.2.2.1]
  by_cases h1 : u.port = 443
  · rw [if_pos h1, if_pos rfl, h1]
    rfl
  · rw [if_neg h1]
theorem up_none {u : Uv} (hi : insL u.scheme = false) : upU u = u := by
  unfold upU
  rw [if_neg (by rw [hi]; simp)]
theorem up_text {u : Uv} (hi : insL u.scheme = true) : (bs u.scheme = ⟨#[104, 116, 116, 112]⟩ ∧ bs (upU u).scheme = ⟨#[104, 116, 116, 112, 115]⟩) ∨ (bs u.scheme = ⟨#[119, 115]⟩ ∧ bs (upU u).scheme = ⟨#[119, 115, 115]⟩) := by
  have e : (upU u).scheme = secL u.scheme := by unfold upU; rw [if_pos hi]
  rw [e]
  rcases ins_cases hi with h | h
  · left; rw [h]; exact ⟨rfl, rfl⟩
  · right; rw [h]; exact ⟨rfl, rfl⟩
set_option maxRecDepth 20000 in
set_option maxHeartbeats 8000000 in
theorem walkUrUp (hPar : HoPar 86) (hF : HoFmt 65) (s : ByteArray) (w : World) (hsz : s.size ≤ maxLen) (hw : Uw w) :
    Calls Tryz.prog 5 #[.string s] w (Yes w) := by
  have cw := fun W hW => awake15_any hPar hF W hW
  unfold Yes at cw
  by_cases h1 : 2048 < s.size
  · have hd : decide ((2048 : Int) < (s.size : Int)) = true := decide_eq_true (by omega)
    have HW := Lib.hid hw
    clear h1 hw
    go_enter Tryz.func5, Tryz.ntmps5
    go_wp2_with (go_at_call 11; refine (cw _ HW.out).mono ?_; rintro e w1 ⟨rfl, hb⟩)
    go_ret
    exact ⟨rfl, hb⟩
  · have hd : decide ((2048 : Int) < (s.size : Int)) = false := decide_eq_false (by omega)
    have c1 := fun W hW => Parse_any hPar s W hsz hW
    unfold UrlPost at c1
    have hsm := parseUL_sm (ls s)
    by_cases hn : (parseUL (ls s)).1 = 0
    · have hg := parseUL_good hn
      rw [hn] at c1
      generalize (parseUL (ls s)).2 = u at *
      have hv := good_valid (good_up hg)
      have hsu := up_sm hsm
      have cU := fun W => urlUpgrade_any u hsm W
      have c2 := fun W => urlInsecure_any (upU u) W
      rw [up_ins] at c2
      have c3 := fun W hW => urlValid_any hPar hF (upU u) hsu W hW
      rw [hv] at c3
      have c4 := fun W => urlUpgrade_any (upU u) hsu W
      rw [up_up] at c4
      have c5 := fun W => urlInsecure_any u W
      have hNU := fun W => neq_of_eql (eq_url (upU u) (upU u) hsu.wf hsu.wf W)
      rw [eqU_self] at hNU
      simp only [Bool.not_true] at hNU
      have hNH := fun W => neq_host hsm.wf W
      obtain ⟨p1, p2, p3⟩ := up_parts u
      have hC := uc_facts u
      have hD := uc_facts (upU u)
      rw [p1, p2, p3] at hD
      have hH : u.host.cells.size = 11 := rfl
      have hEq : insL u.scheme = false → ∀ W, (binOp .eql 29 (.agg (upU u).cells) (.agg u.cells)).run Tryz.prog W = .ok (.bool true) W := fun hi W => by
        have := eq_url (upU u) u hsu.wf hsm.wf W
        rw [this]
        rw [up_none hi, eqU_self]
      have c6 := fun W => urlPort_any u W
      have c7 := fun W => urlPort_any (upU u) W
      have HW := Lib.hid hw
      cases hi : insL u.scheme with
      | false =>
        rw [hi] at c5
        have hE := hEq hi
        clear hEq p1 p2 p3 hv hg hn h1 c6 c7 hsu hw hi
        generalize (upU u).cells = D at *
        generalize u.cells = C at *
        generalize u.host.cells = H at *
        generalize bs u.scheme = S at *
        generalize bs (upU u).scheme = Z at *
        generalize bs u.user = U at *
        generalize bs u.rest = R at *
        generalize bs u.host.name = N at *
        clear hsm
        go_enter Tryz.func5, Tryz.ntmps5
        go_wp2_with fail
        refine (c1 _ HW.out).mono ?_
        rintro e w1 ⟨rfl, hbw⟩
        go_wp2_with (first
          | (refine wpList_alloc_arr _ rfl 3 rfl _ rfl uz zeroUrl ?_
             intro W3 g3 hg3 hl3 hR3 hG3
             have h3 : w.heap.size ≤ g3 := by have := hbw.size; omega
             replace hbw := below_row0 hbw hG3 (Nat.le_refl _))
          | (refine wpList_store_url rfl rfl _ _ rfl g3 (by exact rfl) C (by exact rfl) uz hR3 rfl hC.sz hC.one ?_
             intro w4 hr3 hG4
             replace hbw := below_row hbw hG4 (Nat.le_refl _) h3)
          | (refine wpList_load_url (by rfl) _ rfl g3 (by exact rfl) C hr3 hC.sz ?_))
        refine (cU _).mono ?_
        rintro e w6 ⟨rfl, hb6⟩
        replace hr3 : RowU w6 g3 C := Row.below hr3 hb6 (Row.lt hr3)
        replace hbw := hbw.trans (hb6.mono hbw.size)
        clear hb6 hG3 hG4 hR3
        go_upto_region 7 with (first
          | (refine wpList_alloc_arr _ rfl 5 rfl _ rfl uz zeroUrl ?_
             intro W7 g5 hg5 hl5 hR5 hG5
             have hne : g3 ≠ g5 := by have := Row.lt hr3; omega
             have h5 : w.heap.size ≤ g5 := by have := hbw.size; omega
             replace hr3 : RowU W7 g3 C := Row.grown0 hr3 hG5
             replace hbw := below_row0 hbw hG5 (Nat.le_refl _))
          | (refine wpList_store_url rfl rfl _ _ rfl g5 (by exact rfl) D (by exact rfl) uz hR5 rfl hD.sz hD.one ?_
             intro w8 hr5 hG8
             replace hr3 : RowU w8 g3 C := Row.grown hr3 hG8 hne
             replace hbw := below_row hbw hG8 (Nat.le_refl _) h5
             clear hG8 hR5))
        go_simp
        replace hr3 : RowU w8.drew g3 C := hr3
        replace hr5 : RowU w8.drew g5 D := hr5
        replace hbw := hbw.drew
        refine wp_region_held_drew (S := fun W => RowU W g3 C ∧ RowU W g5 D) (by kernel_rfl) ⟨hr3, hr5⟩ (fun _ => ?_)
        generalize w8.drew = wd at *
        refine wpAnyH_take (i := 0) (v := .agg D) rfl (by kernel_rfl) (by kernel_rfl) (by kernel_rfl) (fun _ _ _ h => h) (yld_url _ rfl (by rfl) g5 (by exact rfl) D (fun W hW => hW.2) hD.sz) ⟨hr3, hr5⟩ ?_
        try simp only [Act.put, List.getElem_toArray, List.getElem_cons_zero, List.setIfInBounds_toArray, List.set_cons_zero, List.set_cons_succ]
        refine wpAnyH_ready (rs := [1]) (by kernel_rfl) (by simp) (AllReadyH.cons rfl (fun K hK => ?_) AllReadyH.nil)
        go_simp
        go_wp2_with fail
        refine (c2 _).mono ?_
        rintro e wA ⟨rfl, hbA⟩
        replace hr3 : RowU wA g3 C := Row.below hr3 hbA (Row.lt hr3)
        replace hr5 : RowU wA g5 D := Row.below hr5 hbA (Row.lt hr5)
        replace hbw := hbw.trans (hbA.mono hbw.size)
        clear hbA
        refine hK.out _ _ ⟨hr3, hr5⟩ (fun _ => ?_)
        clear hK K
        try simp only [Act.put, List.getElem_toArray, List.getElem_cons_zero, List.getElem_cons_succ, List.setIfInBounds_toArray, List.set_cons_zero, List.set_cons_succ]
        refine wpAnyH_take (i := 2) (v := .bool false) rfl (by kernel_rfl) (by kernel_rfl) (by kernel_rfl) (fun _ _ _ h => h) (Or.inl ⟨by rfl, fun W hW => by go_simp; try (with_reducible rfl)⟩) ⟨hr3, hr5⟩ ?_
        try simp only [Act.put, List.getElem_toArray, List.getElem_cons_zero, List.getElem_cons_succ, List.setIfInBounds_toArray, List.set_cons_zero, List.set_cons_succ]
        refine wpAnyH_take (i := 3) (v := .agg D) rfl (by kernel_rfl) (by kernel_rfl) (by kernel_rfl) (fun _ _ _ h => h) (yld_url _ rfl (by rfl) g5 (by exact rfl) D (fun W hW => hW.2) hD.sz) ⟨hr3, hr5⟩ ?_
        try simp only [Act.put, List.getElem_toArray, List.getElem_cons_zero, List.getElem_cons_succ, List.setIfInBounds_toArray, List.set_cons_zero, List.set_cons_succ]
        refine wpAnyH_ready (rs := [4]) (by kernel_rfl) (by simp) (AllReadyH.cons rfl (fun K hK => ?_) AllReadyH.nil)
        go_simp
        go_wp2_with fail
        refine (c3 _ (uw_below HW.out hbw)).mono ?_
        rintro e wA ⟨rfl, hbA⟩
        replace hr3 : RowU wA g3 C := Row.below hr3 hbA (Row.lt hr3)
        replace hr5 : RowU wA g5 D := Row.below hr5 hbA (Row.lt hr5)
        replace hbw := hbw.trans (hbA.mono hbw.size)
        clear hbA
        refine hK.out _ _ ⟨hr3, hr5⟩ (fun _ => ?_)
        clear hK K
        try simp only [Act.put, List.getElem_toArray, List.getElem_cons_zero, List.getElem_cons_succ, List.setIfInBounds_toArray, List.set_cons_zero, List.set_cons_succ]
        refine wpAnyH_take (i := 5) (v := .bool false) rfl (by kernel_rfl) (by kernel_rfl) (by kernel_rfl) (fun _ _ _ h => h) (Or.inl ⟨by rfl, fun W hW => by go_simp; try (with_reducible rfl)⟩) ⟨hr3, hr5⟩ ?_
        try simp only [Act.put, List.getElem_toArray, List.getElem_cons_zero, List.getElem_cons_succ, List.setIfInBounds_toArray, List.set_cons_zero, List.set_cons_succ]
        refine wpAnyH_take (i := 6) (v := .bool false) rfl (by kernel_rfl) (by kernel_rfl) (by kernel_rfl) (fun _ _ _ h => h) (Or.inl ⟨by rfl, fun W hW => by go_simp; try (with_reducible rfl)⟩) ⟨hr3, hr5⟩ ?_
        try simp only [Act.put, List.getElem_toArray, List.getElem_cons_zero, List.getElem_cons_succ, List.setIfInBounds_toArray, List.set_cons_zero, List.set_cons_succ]
        refine wpAnyH_take (i := 7) (v := .bool false) rfl (by kernel_rfl) (by kernel_rfl) (by kernel_rfl) (fun _ _ _ h => h) (Or.inl ⟨by rfl, fun W hW => by go_simp; try (with_reducible rfl)⟩) ⟨hr3, hr5⟩ ?_
        try simp only [Act.put, List.getElem_toArray, List.getElem_cons_zero, List.getElem_cons_succ, List.setIfInBounds_toArray, List.set_cons_zero, List.set_cons_succ]
        refine wpAnyH_take (i := 8) (v := .pointer (some ⟨g5, 1, none⟩)) rfl (by kernel_rfl) (by kernel_rfl) (by kernel_rfl) (fun _ _ _ h => h) (Or.inl ⟨by rfl, fun W hW => by go_simp; try (with_reducible rfl)⟩) ⟨hr3, hr5⟩ ?_
        try simp only [Act.put, List.getElem_toArray, List.getElem_cons_zero, List.getElem_cons_succ, List.setIfInBounds_toArray, List.set_cons_zero, List.set_cons_succ]
        refine wpAnyH_take (i := 9) (v := .string U) rfl (by kernel_rfl) (by kernel_rfl) (by kernel_rfl) (fun _ _ _ h => h) (Or.inl ⟨by rfl, fun W hW => by have h9 := (hD.cell hW.2).2.1; go_simp; try (with_reducible rfl)⟩) ⟨hr3, hr5⟩ ?_
        try simp only [Act.put, List.getElem_toArray, List.getElem_cons_zero, List.getElem_cons_succ, List.setIfInBounds_toArray, List.set_cons_zero, List.set_cons_succ]
        refine wpAnyH_take (i := 10) (v := .pointer (some ⟨g3, 1, none⟩)) rfl (by kernel_rfl) (by kernel_rfl) (by kernel_rfl) (fun _ _ _ h => h) (Or.inl ⟨by rfl, fun W hW => by go_simp; try (with_reducible rfl)⟩) ⟨hr3, hr5⟩ ?_
        try simp only [Act.put, List.getElem_toArray, List.getElem_cons_zero, List.getElem_cons_succ, List.setIfInBounds_toArray, List.set_cons_zero, List.set_cons_succ]
        refine wpAnyH_take (i := 11) (v := .string U) rfl (by kernel_rfl) (by kernel_rfl) (by kernel_rfl) (fun _ _ _ h => h) (Or.inl ⟨by rfl, fun W hW => by have h9 := (hC.cell hW.1).2.1; go_simp; try (with_reducible rfl)⟩) ⟨hr3, hr5⟩ ?_
        try simp only [Act.put, List.getElem_toArray, List.getElem_cons_zero, List.getElem_cons_succ, List.setIfInBounds_toArray, List.set_cons_zero, List.set_cons_succ]
        refine wpAnyH_take (i := 12) (v := .bool false) rfl (by kernel_rfl) (by kernel_rfl) (by kernel_rfl) (fun _ _ _ h => h) (Or.inl ⟨by rfl, fun W hW => by go_simp; try (with_reducible rfl)⟩) ⟨hr3, hr5⟩ ?_
        try simp only [Act.put, List.getElem_toArray, List.getElem_cons_zero, List.getElem_cons_succ, List.setIfInBounds_toArray, List.set_cons_zero, List.set_cons_succ]
        refine wpAnyH_take (i := 13) (v := .bool false) rfl (by kernel_rfl) (by kernel_rfl) (by kernel_rfl) (fun _ _ _ h => h) (Or.inl ⟨by rfl, fun W hW => by go_simp; try (with_reducible rfl)⟩) ⟨hr3, hr5⟩ ?_
        try simp only [Act.put, List.getElem_toArray, List.getElem_cons_zero, List.getElem_cons_succ, List.setIfInBounds_toArray, List.set_cons_zero, List.set_cons_succ]
        refine wpAnyH_take (i := 14) (v := .bool false) rfl (by kernel_rfl) (by kernel_rfl) (by kernel_rfl) (fun _ _ _ h => h) (Or.inl ⟨by rfl, fun W hW => by go_simp; try (with_reducible rfl)⟩) ⟨hr3, hr5⟩ ?_
        try simp only [Act.put, List.getElem_toArray, List.getElem_cons_zero, List.getElem_cons_succ, List.setIfInBounds_toArray, List.set_cons_zero, List.set_cons_succ]
        refine wpAnyH_take (i := 15) (v := .pointer (some ⟨g5, 2, none⟩)) rfl (by kernel_rfl) (by kernel_rfl) (by kernel_rfl) (fun _ _ _ h => h) (Or.inl ⟨by rfl, fun W hW => by go_simp; try (with_reducible rfl)⟩) ⟨hr3, hr5⟩ ?_
        try simp only [Act.put, List.getElem_toArray, List.getElem_cons_zero, List.getElem_cons_succ, List.setIfInBounds_toArray, List.set_cons_zero, List.set_cons_succ]
        refine wpAnyH_take (i := 16) (v := .agg H) rfl (by kernel_rfl) (by kernel_rfl) (by kernel_rfl) (fun _ _ _ h => h) (yld_uhost _ rfl (by rfl) g5 (by exact rfl) D H (fun W hW => hW.2) hD.hh hH) ⟨hr3, hr5⟩ ?_
        try simp only [Act.put, List.getElem_toArray, List.getElem_cons_zero, List.getElem_cons_succ, List.setIfInBounds_toArray, List.set_cons_zero, List.set_cons_succ]
        refine wpAnyH_take (i := 17) (v := .pointer (some ⟨g3, 2, none⟩)) rfl (by kernel_rfl) (by kernel_rfl) (by kernel_rfl) (fun _ _ _ h => h) (Or.inl ⟨by rfl, fun W hW => by go_simp; try (with_reducible rfl)⟩) ⟨hr3, hr5⟩ ?_
        try simp only [Act.put, List.getElem_toArray, List.getElem_cons_zero, List.getElem_cons_succ, List.setIfInBounds_toArray, List.set_cons_zero, List.set_cons_succ]
        refine wpAnyH_take (i := 18) (v := .agg H) rfl (by kernel_rfl) (by kernel_rfl) (by kernel_rfl) (fun _ _ _ h => h) (yld_uhost _ rfl (by rfl) g3 (by exact rfl) C H (fun W hW => hW.1) hC.hh hH) ⟨hr3, hr5⟩ ?_
        try simp only [Act.put, List.getElem_toArray, List.getElem_cons_zero, List.getElem_cons_succ, List.setIfInBounds_toArray, List.set_cons_zero, List.set_cons_succ]
        refine wpAnyH_take (i := 19) (v := .bool false) rfl (by kernel_rfl) (by kernel_rfl) (by kernel_rfl) (fun _ _ _ h => h) (Or.inl ⟨by rfl, fun W hW => by have h9 := hNH W; go_simp; try (with_reducible rfl)⟩) ⟨hr3, hr5⟩ ?_
        try simp only [Act.put, List.getElem_toArray, List.getElem_cons_zero, List.getElem_cons_succ, List.setIfInBounds_toArray, List.set_cons_zero, List.set_cons_succ]
        refine wpAnyH_take (i := 20) (v := .bool false) rfl (by kernel_rfl) (by kernel_rfl) (by kernel_rfl) (fun _ _ _ h => h) (Or.inl ⟨by rfl, fun W hW => by go_simp; try (with_reducible rfl)⟩) ⟨hr3, hr5⟩ ?_
        try simp only [Act.put, List.getElem_toArray, List.getElem_cons_zero, List.getElem_cons_succ, List.setIfInBounds_toArray, List.set_cons_zero, List.set_cons_succ]
        refine wpAnyH_take (i := 21) (v := .bool false) rfl (by kernel_rfl) (by kernel_rfl) (by kernel_rfl) (fun _ _ _ h => h) (Or.inl ⟨by rfl, fun W hW => by go_simp; try (with_reducible rfl)⟩) ⟨hr3, hr5⟩ ?_
        try simp only [Act.put, List.getElem_toArray, List.getElem_cons_zero, List.getElem_cons_succ, List.setIfInBounds_toArray, List.set_cons_zero, List.set_cons_succ]
        refine wpAnyH_take (i := 22) (v := .pointer (some ⟨g5, 14, none⟩)) rfl (by kernel_rfl) (by kernel_rfl) (by kernel_rfl) (fun _ _ _ h => h) (Or.inl ⟨by rfl, fun W hW => by go_simp; try (with_reducible rfl)⟩) ⟨hr3, hr5⟩ ?_
        try simp only [Act.put, List.getElem_toArray, List.getElem_cons_zero, List.getElem_cons_succ, List.setIfInBounds_toArray, List.set_cons_zero, List.set_cons_succ]
        refine wpAnyH_take (i := 23) (v := .string R) rfl (by kernel_rfl) (by kernel_rfl) (by kernel_rfl) (fun _ _ _ h => h) (Or.inl ⟨by rfl, fun W hW => by have h9 := (hD.cell hW.2).2.2.2.2; go_simp; try (with_reducible rfl)⟩) ⟨hr3, hr5⟩ ?_
        try simp only [Act.put, List.getElem_toArray, List.getElem_cons_zero, List.getElem_cons_succ, List.setIfInBounds_toArray, List.set_cons_zero, List.set_cons_succ]
        refine wpAnyH_take (i := 24) (v := .pointer (some ⟨g3, 14, none⟩)) rfl (by kernel_rfl) (by kernel_rfl) (by kernel_rfl) (fun _ _ _ h => h) (Or.inl ⟨by rfl, fun W hW => by go_simp; try (with_reducible rfl)⟩) ⟨hr3, hr5⟩ ?_
        try simp only [Act.put, List.getElem_toArray, List.getElem_cons_zero, List.getElem_cons_succ, List.setIfInBounds_toArray, List.set_cons_zero, List.set_cons_succ]
        refine wpAnyH_take (i := 25) (v := .string R) rfl (by kernel_rfl) (by kernel_rfl) (by kernel_rfl) (fun _ _ _ h => h) (Or.inl ⟨by rfl, fun W hW => by have h9 := (hC.cell hW.1).2.2.2.2; go_simp; try (with_reducible rfl)⟩) ⟨hr3, hr5⟩ ?_
        try simp only [Act.put, List.getElem_toArray, List.getElem_cons_zero, List.getElem_cons_succ, List.setIfInBounds_toArray, List.set_cons_zero, List.set_cons_succ]
        refine wpAnyH_take (i := 26) (v := .bool false) rfl (by kernel_rfl) (by kernel_rfl) (by kernel_rfl) (fun _ _ _ h => h) (Or.inl ⟨by rfl, fun W hW => by go_simp; try (with_reducible rfl)⟩) ⟨hr3, hr5⟩ ?_
        try simp only [Act.put, List.getElem_toArray, List.getElem_cons_zero, List.getElem_cons_succ, List.setIfInBounds_toArray, List.set_cons_zero, List.set_cons_succ]
        refine wpAnyH_take (i := 27) (v := .bool false) rfl (by kernel_rfl) (by kernel_rfl) (by kernel_rfl) (fun _ _ _ h => h) (Or.inl ⟨by rfl, fun W hW => by go_simp; try (with_reducible rfl)⟩) ⟨hr3, hr5⟩ ?_
        try simp only [Act.put, List.getElem_toArray, List.getElem_cons_zero, List.getElem_cons_succ, List.setIfInBounds_toArray, List.set_cons_zero, List.set_cons_succ]
        refine wpAnyH_take (i := 28) (v := .bool false) rfl (by kernel_rfl) (by kernel_rfl) (by kernel_rfl) (fun _ _ _ h => h) (Or.inl ⟨by rfl, fun W hW => by go_simp; try (with_reducible rfl)⟩) ⟨hr3, hr5⟩ ?_
        try simp only [Act.put, List.getElem_toArray, List.getElem_cons_zero, List.getElem_cons_succ, List.setIfInBounds_toArray, List.set_cons_zero, List.set_cons_succ]
        refine wpAnyH_take (i := 29) (v := .agg D) rfl (by kernel_rfl) (by kernel_rfl) (by kernel_rfl) (fun _ _ _ h => h) (yld_url _ rfl (by rfl) g5 (by exact rfl) D (fun W hW => hW.2) hD.sz) ⟨hr3, hr5⟩ ?_
        try simp only [Act.put, List.getElem_toArray, List.getElem_cons_zero, List.getElem_cons_succ, List.setIfInBounds_toArray, List.set_cons_zero, List.set_cons_succ]
        refine wpAnyH_take (i := 31) (v := .agg D) rfl (by kernel_rfl) (by kernel_rfl) (by kernel_rfl) (fun _ _ _ h => h) (yld_url _ rfl (by rfl) g5 (by exact rfl) D (fun W hW => hW.2) hD.sz) ⟨hr3, hr5⟩ ?_
        try simp only [Act.put, List.getElem_toArray, List.getElem_cons_zero, List.getElem_cons_succ, List.setIfInBounds_toArray, List.set_cons_zero, List.set_cons_succ]
        refine wpAnyH_ready (rs := [30]) (by kernel_rfl) (by simp) (AllReadyH.cons rfl (fun K hK => ?_) AllReadyH.nil)
        go_simp
        go_wp2_with fail
        refine (c4 _).mono ?_
        rintro e wA ⟨rfl, hbA⟩
        replace hr3 : RowU wA g3 C := Row.below hr3 hbA (Row.lt hr3)
        replace hr5 : RowU wA g5 D := Row.below hr5 hbA (Row.lt hr5)
        replace hbw := hbw.trans (hbA.mono hbw.size)
        clear hbA
        refine hK.out _ _ ⟨hr3, hr5⟩ (fun _ => ?_)
        clear hK K
        try simp only [Act.put, List.getElem_toArray, List.getElem_cons_zero, List.getElem_cons_succ, List.setIfInBounds_toArray, List.set_cons_zero, List.set_cons_succ]
        refine wpAnyH_take (i := 32) (v := .bool false) rfl (by kernel_rfl) (by kernel_rfl) (by kernel_rfl) (fun _ _ _ h => h) (Or.inl ⟨by rfl, fun W hW => by have h9 := hNU W; go_simp; try (with_reducible rfl)⟩) ⟨hr3, hr5⟩ ?_
        try simp only [Act.put, List.getElem_toArray, List.getElem_cons_zero, List.getElem_cons_succ, List.setIfInBounds_toArray, List.set_cons_zero, List.set_cons_succ]
        refine wpAnyH_take (i := 33) (v := .bool false) rfl (by kernel_rfl) (by kernel_rfl) (by kernel_rfl) (fun _ _ _ h => h) (Or.inl ⟨by rfl, fun W hW => by go_simp; try (with_reducible rfl)⟩) ⟨hr3, hr5⟩ ?_
        try simp only [Act.put, List.getElem_toArray, List.getElem_cons_zero, List.getElem_cons_succ, List.setIfInBounds_toArray, List.set_cons_zero, List.set_cons_succ]
        refine wpAnyH_done (by kernel_rfl) ?_ _
        go_wp2_with (first
          | (refine wpList_load_url (by rfl) _ rfl g3 (by exact rfl) C hr3 hC.sz ?_)
          | (refine wpList_load_url (by rfl) _ rfl g5 (by exact rfl) D hr5 hD.sz ?_)
          | (go_at_call 21; refine (c5 _).mono ?_; rintro e wA ⟨rfl, hbA⟩
             replace hr3 : RowU wA g3 C := Row.below hr3 hbA (Row.lt hr3)
             replace hr5 : RowU wA g5 D := Row.below hr5 hbA (Row.lt hr5)
             replace hbw := hbw.trans (hbA.mono hbw.size)
             clear hbA)
          | (go_at_call 11; refine (cw _ (uw_below HW.out hbw)).mono ?_; rintro e wA ⟨rfl, hbA⟩
             replace hbw := hbw.trans (hbA.mono hbw.size)))
        go_ret
        exact ⟨rfl, hbw⟩
      | true =>
        rw [hi] at c5
        have hPP := up_port hi
        have hT := up_text hi
        clear hEq p1 p2 p3 hv hg hn h1 hsu hw hi
        simp only [hPP] at c7
        generalize stdP u.scheme = st at *
        generalize u.port = q at *
        generalize (upU u).port = q' at *
        generalize (upU u).cells = D at *
        generalize u.cells = C at *
        generalize u.host.cells = H at *
        generalize bs u.scheme = S at *
        generalize bs (upU u).scheme = Z at *
        generalize bs u.user = U at *
        generalize bs u.rest = R at *
        generalize bs u.host.name = N at *
        clear hsm hPP
        go_enter Tryz.func5, Tryz.ntmps5
        go_wp2_with fail
        refine (c1 _ HW.out).mono ?_
        rintro e w1 ⟨rfl, hbw⟩
        go_wp2_with (first
          | (refine wpList_alloc_arr _ rfl 3 rfl _ rfl uz zeroUrl ?_
             intro W3 g3 hg3 hl3 hR3 hG3
             have h3 : w.heap.size ≤ g3 := by have := hbw.size; omega
             replace hbw := below_row0 hbw hG3 (Nat.le_refl _))
          | (refine wpList_store_url rfl rfl _ _ rfl g3 (by exact rfl) C (by exact rfl) uz hR3 rfl hC.sz hC.one ?_
             intro w4 hr3 hG4
             replace hbw := below_row hbw hG4 (Nat.le_refl _) h3)
          | (refine wpList_load_url (by rfl) _ rfl g3 (by exact rfl) C hr3 hC.sz ?_))
        refine (cU _).mono ?_
        rintro e w6 ⟨rfl, hb6⟩
        replace hr3 : RowU w6 g3 C := Row.below hr3 hb6 (Row.lt hr3)
        replace hbw := hbw.trans (hb6.mono hbw.size)
        clear hb6 hG3 hG4 hR3
        go_upto_region 7 with (first
          | (refine wpList_alloc_arr _ rfl 5 rfl _ rfl uz zeroUrl ?_
             intro W7 g5 hg5 hl5 hR5 hG5
             have hne : g3 ≠ g5 := by have := Row.lt hr3; omega
             have h5 : w.heap.size ≤ g5 := by have := hbw.size; omega
             replace hr3 : RowU W7 g3 C := Row.grown0 hr3 hG5
             replace hbw := below_row0 hbw hG5 (Nat.le_refl _))
          | (refine wpList_store_url rfl rfl _ _ rfl g5 (by exact rfl) D (by exact rfl) uz hR5 rfl hD.sz hD.one ?_
             intro w8 hr5 hG8
             replace hr3 : RowU w8 g3 C := Row.grown hr3 hG8 hne
             replace hbw := below_row hbw hG8 (Nat.le_refl _) h5
             clear hG8 hR5))
        go_simp
        replace hr3 : RowU w8.drew g3 C := hr3
        replace hr5 : RowU w8.drew g5 D := hr5
        replace hbw := hbw.drew
        refine wp_region_held_drew (S := fun W => RowU W g3 C ∧ RowU W g5 D) (by kernel_rfl) ⟨hr3, hr5⟩ (fun _ => ?_)
        generalize w8.drew = wd at *
        refine wpAnyH_take (i := 0) (v := .agg D) rfl (by kernel_rfl) (by kernel_rfl) (by kernel_rfl) (fun _ _ _ h => h) (yld_url _ rfl (by rfl) g5 (by exact rfl) D (fun W hW => hW.2) hD.sz) ⟨hr3, hr5⟩ ?_
        try simp only [Act.put, List.getElem_toArray, List.getElem_cons_zero, List.setIfInBounds_toArray, List.set_cons_zero, List.set_cons_succ]
        refine wpAnyH_ready (rs := [1]) (by kernel_rfl) (by simp) (AllReadyH.cons rfl (fun K hK => ?_) AllReadyH.nil)
        go_simp
        go_wp2_with fail
        refine (c2 _).mono ?_
        rintro e wA ⟨rfl, hbA⟩
        replace hr3 : RowU wA g3 C := Row.below hr3 hbA (Row.lt hr3)
        replace hr5 : RowU wA g5 D := Row.below hr5 hbA (Row.lt hr5)
        replace hbw := hbw.trans (hbA.mono hbw.size)
        clear hbA
        refine hK.out _ _ ⟨hr3, hr5⟩ (fun _ => ?_)
        clear hK K
        try simp only [Act.put, List.getElem_toArray, List.getElem_cons_zero, List.getElem_cons_succ, List.setIfInBounds_toArray, List.set_cons_zero, List.set_cons_succ]
        refine wpAnyH_take (i := 2) (v := .bool false) rfl (by kernel_rfl) (by kernel_rfl) (by kernel_rfl) (fun _ _ _ h => h) (Or.inl ⟨by rfl, fun W hW => by go_simp; try (with_reducible rfl)⟩) ⟨hr3, hr5⟩ ?_
        try simp only [Act.put, List.getElem_toArray, List.getElem_cons_zero, List.getElem_cons_succ, List.setIfInBounds_toArray, List.set_cons_zero, List.set_cons_succ]
        refine wpAnyH_take (i := 3) (v := .agg D) rfl (by kernel_rfl) (by kernel_rfl) (by kernel_rfl) (fun _ _ _ h => h) (yld_url _ rfl (by rfl) g5 (by exact rfl) D (fun W hW => hW.2) hD.sz) ⟨hr3, hr5⟩ ?_
        try simp only [Act.put, List.getElem_toArray, List.getElem_cons_zero, List.getElem_cons_succ, List.setIfInBounds_toArray, List.set_cons_zero, List.set_cons_succ]
        refine wpAnyH_ready (rs := [4]) (by kernel_rfl) (by simp) (AllReadyH.cons rfl (fun K hK => ?_) AllReadyH.nil)
        go_simp
        go_wp2_with fail
        refine (c3 _ (uw_below HW.out hbw)).mono ?_
        rintro e wA ⟨rfl, hbA⟩
        replace hr3 : RowU wA g3 C := Row.below hr3 hbA (Row.lt hr3)
        replace hr5 : RowU wA g5 D := Row.below hr5 hbA (Row.lt hr5)
        replace hbw := hbw.trans (hbA.mono hbw.size)
        clear hbA
        refine hK.out _ _ ⟨hr3, hr5⟩ (fun _ => ?_)
        clear hK K
        try simp only [Act.put, List.getElem_toArray, List.getElem_cons_zero, List.getElem_cons_succ, List.setIfInBounds_toArray, List.set_cons_zero, List.set_cons_succ]
        refine wpAnyH_take (i := 5) (v := .bool false) rfl (by kernel_rfl) (by kernel_rfl) (by kernel_rfl) (fun _ _ _ h => h) (Or.inl ⟨by rfl, fun W hW => by go_simp; try (with_reducible rfl)⟩) ⟨hr3, hr5⟩ ?_
        try simp only [Act.put, List.getElem_toArray, List.getElem_cons_zero, List.getElem_cons_succ, List.setIfInBounds_toArray, List.set_cons_zero, List.set_cons_succ]
        refine wpAnyH_take (i := 6) (v := .bool false) rfl (by kernel_rfl) (by kernel_rfl) (by kernel_rfl) (fun _ _ _ h => h) (Or.inl ⟨by rfl, fun W hW => by go_simp; try (with_reducible rfl)⟩) ⟨hr3, hr5⟩ ?_
        try simp only [Act.put, List.getElem_toArray, List.getElem_cons_zero, List.getElem_cons_succ, List.setIfInBounds_toArray, List.set_cons_zero, List.set_cons_succ]
        refine wpAnyH_take (i := 7) (v := .bool false) rfl (by kernel_rfl) (by kernel_rfl) (by kernel_rfl) (fun _ _ _ h => h) (Or.inl ⟨by rfl, fun W hW => by go_simp; try (with_reducible rfl)⟩) ⟨hr3, hr5⟩ ?_
        try simp only [Act.put, List.getElem_toArray, List.getElem_cons_zero, List.getElem_cons_succ, List.setIfInBounds_toArray, List.set_cons_zero, List.set_cons_succ]
        refine wpAnyH_take (i := 8) (v := .pointer (some ⟨g5, 1, none⟩)) rfl (by kernel_rfl) (by kernel_rfl) (by kernel_rfl) (fun _ _ _ h => h) (Or.inl ⟨by rfl, fun W hW => by go_simp; try (with_reducible rfl)⟩) ⟨hr3, hr5⟩ ?_
        try simp only [Act.put, List.getElem_toArray, List.getElem_cons_zero, List.getElem_cons_succ, List.setIfInBounds_toArray, List.set_cons_zero, List.set_cons_succ]
        refine wpAnyH_take (i := 9) (v := .string U) rfl (by kernel_rfl) (by kernel_rfl) (by kernel_rfl) (fun _ _ _ h => h) (Or.inl ⟨by rfl, fun W hW => by have h9 := (hD.cell hW.2).2.1; go_simp; try (with_reducible rfl)⟩) ⟨hr3, hr5⟩ ?_
        try simp only [Act.put, List.getElem_toArray, List.getElem_cons_zero, List.getElem_cons_succ, List.setIfInBounds_toArray, List.set_cons_zero, List.set_cons_succ]
        refine wpAnyH_take (i := 10) (v := .pointer (some ⟨g3, 1, none⟩)) rfl (by kernel_rfl) (by kernel_rfl) (by kernel_rfl) (fun _ _ _ h => h) (Or.inl ⟨by rfl, fun W hW => by go_simp; try (with_reducible rfl)⟩) ⟨hr3, hr5⟩ ?_
        try simp only [Act.put, List.getElem_toArray, List.getElem_cons_zero, List.getElem_cons_succ, List.setIfInBounds_toArray, List.set_cons_zero, List.set_cons_succ]
        refine wpAnyH_take (i := 11) (v := .string U) rfl (by kernel_rfl) (by kernel_rfl) (by kernel_rfl) (fun _ _ _ h => h) (Or.inl ⟨by rfl, fun W hW => by have h9 := (hC.cell hW.1).2.1; go_simp; try (with_reducible rfl)⟩) ⟨hr3, hr5⟩ ?_
        try simp only [Act.put, List.getElem_toArray, List.getElem_cons_zero, List.getElem_cons_succ, List.setIfInBounds_toArray, List.set_cons_zero, List.set_cons_succ]
        refine wpAnyH_take (i := 12) (v := .bool false) rfl (by kernel_rfl) (by kernel_rfl) (by kernel_rfl) (fun _ _ _ h => h) (Or.inl ⟨by rfl, fun W hW => by go_simp; try (with_reducible rfl)⟩) ⟨hr3, hr5⟩ ?_
        try simp only [Act.put, List.getElem_toArray, List.getElem_cons_zero, List.getElem_cons_succ, List.setIfInBounds_toArray, List.set_cons_zero, List.set_cons_succ]
        refine wpAnyH_take (i := 13) (v := .bool false) rfl (by kernel_rfl) (by kernel_rfl) (by kernel_rfl) (fun _ _ _ h => h) (Or.inl ⟨by rfl, fun W hW => by go_simp; try (with_reducible rfl)⟩) ⟨hr3, hr5⟩ ?_
        try simp only [Act.put, List.getElem_toArray, List.getElem_cons_zero, List.getElem_cons_succ, List.setIfInBounds_toArray, List.set_cons_zero, List.set_cons_succ]
        refine wpAnyH_take (i := 14) (v := .bool false) rfl (by kernel_rfl) (by kernel_rfl) (by kernel_rfl) (fun _ _ _ h => h) (Or.inl ⟨by rfl, fun W hW => by go_simp; try (with_reducible rfl)⟩) ⟨hr3, hr5⟩ ?_
        try simp only [Act.put, List.getElem_toArray, List.getElem_cons_zero, List.getElem_cons_succ, List.setIfInBounds_toArray, List.set_cons_zero, List.set_cons_succ]
        refine wpAnyH_take (i := 15) (v := .pointer (some ⟨g5, 2, none⟩)) rfl (by kernel_rfl) (by kernel_rfl) (by kernel_rfl) (fun _ _ _ h => h) (Or.inl ⟨by rfl, fun W hW => by go_simp; try (with_reducible rfl)⟩) ⟨hr3, hr5⟩ ?_
        try simp only [Act.put, List.getElem_toArray, List.getElem_cons_zero, List.getElem_cons_succ, List.setIfInBounds_toArray, List.set_cons_zero, List.set_cons_succ]
        refine wpAnyH_take (i := 16) (v := .agg H) rfl (by kernel_rfl) (by kernel_rfl) (by kernel_rfl) (fun _ _ _ h => h) (yld_uhost _ rfl (by rfl) g5 (by exact rfl) D H (fun W hW => hW.2) hD.hh hH) ⟨hr3, hr5⟩ ?_
        try simp only [Act.put, List.getElem_toArray, List.getElem_cons_zero, List.getElem_cons_succ, List.setIfInBounds_toArray, List.set_cons_zero, List.set_cons_succ]
        refine wpAnyH_take (i := 17) (v := .pointer (some ⟨g3, 2, none⟩)) rfl (by kernel_rfl) (by kernel_rfl) (by kernel_rfl) (fun _ _ _ h => h) (Or.inl ⟨by rfl, fun W hW => by go_simp; try (with_reducible rfl)⟩) ⟨hr3, hr5⟩ ?_
        try simp only [Act.put, List.getElem_toArray, List.getElem_cons_zero, List.getElem_cons_succ, List.setIfInBounds_toArray, List.set_cons_zero, List.set_cons_succ]
        refine wpAnyH_take (i := 18) (v := .agg H) rfl (by kernel_rfl) (by kernel_rfl) (by kernel_rfl) (fun _ _ _ h => h) (yld_uhost _ rfl (by rfl) g3 (by exact rfl) C H (fun W hW => hW.1) hC.hh hH) ⟨hr3, hr5⟩ ?_
        try simp only [Act.put, List.getElem_toArray, List.getElem_cons_zero, List.getElem_cons_succ, List.setIfInBounds_toArray, List.set_cons_zero, List.set_cons_succ]
        refine wpAnyH_take (i := 19) (v := .bool false) rfl (by kernel_rfl) (by kernel_rfl) (by kernel_rfl) (fun _ _ _ h => h) (Or.inl ⟨by rfl, fun W hW => by have h9 := hNH W; go_simp; try (with_reducible rfl)⟩) ⟨hr3, hr5⟩ ?_
        try simp only [Act.put, List.getElem_toArray, List.getElem_cons_zero, List.getElem_cons_succ, List.setIfInBounds_toArray, List.set_cons_zero, List.set_cons_succ]
        refine wpAnyH_take (i := 20) (v := .bool false) rfl (by kernel_rfl) (by kernel_rfl) (by kernel_rfl) (fun _ _ _ h => h) (Or.inl ⟨by rfl, fun W hW => by go_simp; try (with_reducible rfl)⟩) ⟨hr3, hr5⟩ ?_
        try simp only [Act.put, List.getElem_toArray, List.getElem_cons_zero, List.getElem_cons_succ, List.setIfInBounds_toArray, List.set_cons_zero, List.set_cons_succ]
        refine wpAnyH_take (i := 21) (v := .bool false) rfl (by kernel_rfl) (by kernel_rfl) (by kernel_rfl) (fun _ _ _ h => h) (Or.inl ⟨by rfl, fun W hW => by go_simp; try (with_reducible rfl)⟩) ⟨hr3, hr5⟩ ?_
        try simp only [Act.put, List.getElem_toArray, List.getElem_cons_zero, List.getElem_cons_succ, List.setIfInBounds_toArray, List.set_cons_zero, List.set_cons_succ]
        refine wpAnyH_take (i := 22) (v := .pointer (some ⟨g5, 14, none⟩)) rfl (by kernel_rfl) (by kernel_rfl) (by kernel_rfl) (fun _ _ _ h => h) (Or.inl ⟨by rfl, fun W hW => by go_simp; try (with_reducible rfl)⟩) ⟨hr3, hr5⟩ ?_
        try simp only [Act.put, List.getElem_toArray, List.getElem_cons_zero, List.getElem_cons_succ, List.setIfInBounds_toArray, List.set_cons_zero, List.set_cons_succ]
        refine wpAnyH_take (i := 23) (v := .string R) rfl (by kernel_rfl) (by kernel_rfl) (by kernel_rfl) (fun _ _ _ h => h) (Or.inl ⟨by rfl, fun W hW => by have h9 := (hD.cell hW.2).2.2.2.2; go_simp; try (with_reducible rfl)⟩) ⟨hr3, hr5⟩ ?_
        try simp only [Act.put, List.getElem_toArray, List.getElem_cons_zero, List.getElem_cons_succ, List.setIfInBounds_toArray, List.set_cons_zero, List.set_cons_succ]
        refine wpAnyH_take (i := 24) (v := .pointer (some ⟨g3, 14, none⟩)) rfl (by kernel_rfl) (by kernel_rfl) (by kernel_rfl) (fun _ _ _ h => h) (Or.inl ⟨by rfl, fun W hW => by go_simp; try (with_reducible rfl)⟩) ⟨hr3, hr5⟩ ?_
        try simp only [Act.put, List.getElem_toArray, List.getElem_cons_zero, List.getElem_cons_succ, List.setIfInBounds_toArray, List.set_cons_zero, List.set_cons_succ]
        refine wpAnyH_take (i := 25) (v := .string R) rfl (by kernel_rfl) (by kernel_rfl) (by kernel_rfl) (fun _ _ _ h => h) (Or.inl ⟨by rfl, fun W hW => by have h9 := (hC.cell hW.1).2.2.2.2; go_simp; try (with_reducible rfl)⟩) ⟨hr3, hr5⟩ ?_
        try simp only [Act.put, List.getElem_toArray, List.getElem_cons_zero, List.getElem_cons_succ, List.setIfInBounds_toArray, List.set_cons_zero, List.set_cons_succ]
        refine wpAnyH_take (i := 26) (v := .bool false) rfl (by kernel_rfl) (by kernel_rfl) (by kernel_rfl) (fun _ _ _ h => h) (Or.inl ⟨by rfl, fun W hW => by go_simp; try (with_reducible rfl)⟩) ⟨hr3, hr5⟩ ?_
        try simp only [Act.put, List.getElem_toArray, List.getElem_cons_zero, List.getElem_cons_succ, List.setIfInBounds_toArray, List.set_cons_zero, List.set_cons_succ]
        refine wpAnyH_take (i := 27) (v := .bool false) rfl (by kernel_rfl) (by kernel_rfl) (by kernel_rfl) (fun _ _ _ h => h) (Or.inl ⟨by rfl, fun W hW => by go_simp; try (with_reducible rfl)⟩) ⟨hr3, hr5⟩ ?_
        try simp only [Act.put, List.getElem_toArray, List.getElem_cons_zero, List.getElem_cons_succ, List.setIfInBounds_toArray, List.set_cons_zero, List.set_cons_succ]
        refine wpAnyH_take (i := 28) (v := .bool false) rfl (by kernel_rfl) (by kernel_rfl) (by kernel_rfl) (fun _ _ _ h => h) (Or.inl ⟨by rfl, fun W hW => by go_simp; try (with_reducible rfl)⟩) ⟨hr3, hr5⟩ ?_
        try simp only [Act.put, List.getElem_toArray, List.getElem_cons_zero, List.getElem_cons_succ, List.setIfInBounds_toArray, List.set_cons_zero, List.set_cons_succ]
        refine wpAnyH_take (i := 29) (v := .agg D) rfl (by kernel_rfl) (by kernel_rfl) (by kernel_rfl) (fun _ _ _ h => h) (yld_url _ rfl (by rfl) g5 (by exact rfl) D (fun W hW => hW.2) hD.sz) ⟨hr3, hr5⟩ ?_
        try simp only [Act.put, List.getElem_toArray, List.getElem_cons_zero, List.getElem_cons_succ, List.setIfInBounds_toArray, List.set_cons_zero, List.set_cons_succ]
        refine wpAnyH_take (i := 31) (v := .agg D) rfl (by kernel_rfl) (by kernel_rfl) (by kernel_rfl) (fun _ _ _ h => h) (yld_url _ rfl (by rfl) g5 (by exact rfl) D (fun W hW => hW.2) hD.sz) ⟨hr3, hr5⟩ ?_
        try simp only [Act.put, List.getElem_toArray, List.getElem_cons_zero, List.getElem_cons_succ, List.setIfInBounds_toArray, List.set_cons_zero, List.set_cons_succ]
        refine wpAnyH_ready (rs := [30]) (by kernel_rfl) (by simp) (AllReadyH.cons rfl (fun K hK => ?_) AllReadyH.nil)
        go_simp
        go_wp2_with fail
        refine (c4 _).mono ?_
        rintro e wA ⟨rfl, hbA⟩
        replace hr3 : RowU wA g3 C := Row.below hr3 hbA (Row.lt hr3)
        replace hr5 : RowU wA g5 D := Row.below hr5 hbA (Row.lt hr5)
        replace hbw := hbw.trans (hbA.mono hbw.size)
        clear hbA
        refine hK.out _ _ ⟨hr3, hr5⟩ (fun _ => ?_)
        clear hK K
        try simp only [Act.put, List.getElem_toArray, List.getElem_cons_zero, List.getElem_cons_succ, List.setIfInBounds_toArray, List.set_cons_zero, List.set_cons_succ]
        refine wpAnyH_take (i := 32) (v := .bool false) rfl (by kernel_rfl) (by kernel_rfl) (by kernel_rfl) (fun _ _ _ h => h) (Or.inl ⟨by rfl, fun W hW => by have h9 := hNU W; go_simp; try (with_reducible rfl)⟩) ⟨hr3, hr5⟩ ?_
        try simp only [Act.put, List.getElem_toArray, List.getElem_cons_zero, List.getElem_cons_succ, List.setIfInBounds_toArray, List.set_cons_zero, List.set_cons_succ]
        refine wpAnyH_take (i := 33) (v := .bool false) rfl (by kernel_rfl) (by kernel_rfl) (by kernel_rfl) (fun _ _ _ h => h) (Or.inl ⟨by rfl, fun W hW => by go_simp; try (with_reducible rfl)⟩) ⟨hr3, hr5⟩ ?_
        try simp only [Act.put, List.getElem_toArray, List.getElem_cons_zero, List.getElem_cons_succ, List.setIfInBounds_toArray, List.set_cons_zero, List.set_cons_succ]
        refine wpAnyH_done (by kernel_rfl) ?_ _
        by_cases hq : q = -1
        · simp only [if_pos hq] at c6 c7
          have hq1 : (q == -1) = true := by rw [hq]; rfl
          clear hq
          rcases hT with ⟨rfl, rfl⟩ | ⟨rfl, rfl⟩
          · go_upto_region 14 with (first
              | (refine wpList_load_url (by rfl) _ rfl g3 (by exact rfl) C hr3 hC.sz ?_)
              | (refine wpList_load_url (by rfl) _ rfl g5 (by exact rfl) D hr5 hD.sz ?_)
              | (go_at_call 21; refine (c5 _).mono ?_; rintro e wA ⟨rfl, hbA⟩
                 replace hr3 : RowU wA g3 C := Row.below hr3 hbA (Row.lt hr3)
                 replace hr5 : RowU wA g5 D := Row.below hr5 hbA (Row.lt hr5)
                 replace hbw := hbw.trans (hbA.mono hbw.size)
                 clear hbA
                 obtain ⟨e0, e1, e3, e13, e14⟩ := hC.cell hr3
                 obtain ⟨f0, f1, f3, f13, f14⟩ := hD.cell hr5)
              | (go_at_call 23; refine (c6 _).mono ?_; rintro e wA ⟨rfl, hbA⟩
                 replace hr3 : RowU wA g3 C := Row.below hr3 hbA (Row.lt hr3)
                 replace hr5 : RowU wA g5 D := Row.below hr5 hbA (Row.lt hr5)
                 replace hbw := hbw.trans (hbA.mono hbw.size)
                 clear hbA
                 obtain ⟨e0, e1, e3, e13, e14⟩ := hC.cell hr3
                 obtain ⟨f0, f1, f3, f13, f14⟩ := hD.cell hr5))
            go_wp2_with (refine wpList_load_url (by rfl) _ rfl g5 (by exact rfl) D hr5 hD.sz ?_)
            clear e0 e1 e3 e13 e14 f0 f1 f3 f13 f14
            refine (c7 _).mono ?_
            rintro e wB ⟨rfl, hbB⟩
            replace hr3 : RowU wB g3 C := Row.below hr3 hbB (Row.lt hr3)
            replace hr5 : RowU wB g5 D := Row.below hr5 hbB (Row.lt hr5)
            replace hbw := hbw.trans (hbB.mono hbw.size)
            clear hbB
            obtain ⟨e0, e1, e3, e13, e14⟩ := hC.cell hr3
            obtain ⟨f0, f1, f3, f13, f14⟩ := hD.cell hr5
            go_wp2_with (go_at_call 11; refine (cw _ (uw_below HW.out hbw)).mono ?_; rintro e wA ⟨rfl, hbA⟩; replace hbw := hbw.trans (hbA.mono hbw.size))
            go_ret
            exact ⟨rfl, hbw⟩
          · go_upto_region 14 with (first
              | (refine wpList_load_url (by rfl) _ rfl g3 (by exact rfl) C hr3 hC.sz ?_)
              | (refine wpList_load_url (by rfl) _ rfl g5 (by exact rfl) D hr5 hD.sz ?_)
              | (go_at_call 21; refine (c5 _).mono ?_; rintro e wA ⟨rfl, hbA⟩
                 replace hr3 : RowU wA g3 C := Row.below hr3 hbA (Row.lt hr3)
                 replace hr5 : RowU wA g5 D := Row.below hr5 hbA (Row.lt hr5)
                 replace hbw := hbw.trans (hbA.mono hbw.size)
                 clear hbA
                 obtain ⟨e0, e1, e3, e13, e14⟩ := hC.cell hr3
                 obtain ⟨f0, f1, f3, f13, f14⟩ := hD.cell hr5)
              | (go_at_call 23; refine (c6 _).mono ?_; rintro e wA ⟨rfl, hbA⟩
                 replace hr3 : RowU wA g3 C := Row.below hr3 hbA (Row.lt hr3)
                 replace hr5 : RowU wA g5 D := Row.below hr5 hbA (Row.lt hr5)
                 replace hbw := hbw.trans (hbA.mono hbw.size)
                 clear hbA
                 obtain ⟨e0, e1, e3, e13, e14⟩ := hC.cell hr3
                 obtain ⟨f0, f1, f3, f13, f14⟩ := hD.cell hr5))
            go_wp2_with (refine wpList_load_url (by rfl) _ rfl g5 (by exact rfl) D hr5 hD.sz ?_)
            clear e0 e1 e3 e13 e14 f0 f1 f3 f13 f14
            refine (c7 _).mono ?_
            rintro e wB ⟨rfl, hbB⟩
            replace hr3 : RowU wB g3 C := Row.below hr3 hbB (Row.lt hr3)
            replace hr5 : RowU wB g5 D := Row.below hr5 hbB (Row.lt hr5)
            replace hbw := hbw.trans (hbB.mono hbw.size)
            clear hbB
            obtain ⟨e0, e1, e3, e13, e14⟩ := hC.cell hr3
            obtain ⟨f0, f1, f3, f13, f14⟩ := hD.cell hr5
            go_wp2_with (go_at_call 11; refine (cw _ (uw_below HW.out hbw)).mono ?_; rintro e wA ⟨rfl, hbA⟩; replace hbw := hbw.trans (hbA.mono hbw.size))
            go_ret
            exact ⟨rfl, hbw⟩
        · simp only [if_neg hq] at c6 c7
          have hq1 : (q == -1) = false := by rw [beq_eq_false_iff_ne]; exact hq
          clear hq
          rcases hT with ⟨rfl, rfl⟩ | ⟨rfl, rfl⟩
          · go_upto_region 14 with (first
              | (refine wpList_load_url (by rfl) _ rfl g3 (by exact rfl) C hr3 hC.sz ?_)
              | (refine wpList_load_url (by rfl) _ rfl g5 (by exact rfl) D hr5 hD.sz ?_)
              | (go_at_call 21; refine (c5 _).mono ?_; rintro e wA ⟨rfl, hbA⟩
                 replace hr3 : RowU wA g3 C := Row.below hr3 hbA (Row.lt hr3)
                 replace hr5 : RowU wA g5 D := Row.below hr5 hbA (Row.lt hr5)
                 replace hbw := hbw.trans (hbA.mono hbw.size)
                 clear hbA
                 obtain ⟨e0, e1, e3, e13, e14⟩ := hC.cell hr3
                 obtain ⟨f0, f1, f3, f13, f14⟩ := hD.cell hr5)
              | (go_at_call 23; refine (c6 _).mono ?_; rintro e wA ⟨rfl, hbA⟩
                 replace hr3 : RowU wA g3 C := Row.below hr3 hbA (Row.lt hr3)
                 replace hr5 : RowU wA g5 D := Row.below hr5 hbA (Row.lt hr5)
                 replace hbw := hbw.trans (hbA.mono hbw.size)
                 clear hbA
                 obtain ⟨e0, e1, e3, e13, e14⟩ := hC.cell hr3
                 obtain ⟨f0, f1, f3, f13, f14⟩ := hD.cell hr5))
            go_wp2_with (refine wpList_load_url (by rfl) _ rfl g5 (by exact rfl) D hr5 hD.sz ?_)
            clear e0 e1 e3 e13 e14 f0 f1 f3 f13 f14
            refine (c7 _).mono ?_
            rintro e wB ⟨rfl, hbB⟩
            replace hr3 : RowU wB g3 C := Row.below hr3 hbB (Row.lt hr3)
            replace hr5 : RowU wB g5 D := Row.below hr5 hbB (Row.lt hr5)
            replace hbw := hbw.trans (hbB.mono hbw.size)
            clear hbB
            obtain ⟨e0, e1, e3, e13, e14⟩ := hC.cell hr3
            obtain ⟨f0, f1, f3, f13, f14⟩ := hD.cell hr5
            go_wp2_with (go_at_call 11; refine (cw _ (uw_below HW.out hbw)).mono ?_; rintro e wA ⟨rfl, hbA⟩; replace hbw := hbw.trans (hbA.mono hbw.size))
            go_ret
            exact ⟨rfl, hbw⟩
          · go_upto_region 14 with (first
              | (refine wpList_load_url (by rfl) _ rfl g3 (by exact rfl) C hr3 hC.sz ?_)
              | (refine wpList_load_url (by rfl) _ rfl g5 (by exact rfl) D hr5 hD.sz ?_)
              | (go_at_call 21; refine (c5 _).mono ?_; rintro e wA ⟨rfl, hbA⟩
                 replace hr3 : RowU wA g3 C := Row.below hr3 hbA (Row.lt hr3)
                 replace hr5 : RowU wA g5 D := Row.below hr5 hbA (Row.lt hr5)
                 replace hbw := hbw.trans (hbA.mono hbw.size)
                 clear hbA
                 obtain ⟨e0, e1, e3, e13, e14⟩ := hC.cell hr3
                 obtain ⟨f0, f1, f3, f13, f14⟩ := hD.cell hr5)
              | (go_at_call 23; refine (c6 _).mono ?_; rintro e wA ⟨rfl, hbA⟩
                 replace hr3 : RowU wA g3 C := Row.below hr3 hbA (Row.lt hr3)
                 replace hr5 : RowU wA g5 D := Row.below hr5 hbA (Row.lt hr5)
                 replace hbw := hbw.trans (hbA.mono hbw.size)
                 clear hbA
                 obtain ⟨e0, e1, e3, e13, e14⟩ := hC.cell hr3
                 obtain ⟨f0, f1, f3, f13, f14⟩ := hD.cell hr5))
            go_wp2_with (refine wpList_load_url (by rfl) _ rfl g5 (by exact rfl) D hr5 hD.sz ?_)
            clear e0 e1 e3 e13 e14 f0 f1 f3 f13 f14
            refine (c7 _).mono ?_
            rintro e wB ⟨rfl, hbB⟩
            replace hr3 : RowU wB g3 C := Row.below hr3 hbB (Row.lt hr3)
            replace hr5 : RowU wB g5 D := Row.below hr5 hbB (Row.lt hr5)
            replace hbw := hbw.trans (hbB.mono hbw.size)
            clear hbB
            obtain ⟨e0, e1, e3, e13, e14⟩ := hC.cell hr3
            obtain ⟨f0, f1, f3, f13, f14⟩ := hD.cell hr5
            go_wp2_with (go_at_call 11; refine (cw _ (uw_below HW.out hbw)).mono ?_; rintro e wA ⟨rfl, hbA⟩; replace hbw := hbw.trans (hbA.mono hbw.size))
            go_ret
            exact ⟨rfl, hbw⟩
    · have e0 := parseUL_err hn
      rw [e0] at c1
      have hZ := urv_size uv0
      have hZ1 := urv_one uv0
      obtain ⟨n, hne⟩ : ∃ n, n = (parseUL (ls s)).1 := ⟨_, rfl⟩
      rw [← hne] at c1 hn
      have hn0 : ((n : Int) != 0) = true := by rw [bne, beq_eq_false_iff_ne.2 (by omega)]; rfl
      generalize uv0.cells = Z at *
      have HW := Lib.hid hw
      clear h1 hw hsm e0 hn hne
      go_enter Tryz.func5, Tryz.ntmps5
      go_wp2_with (first
        | (go_at_call 12; refine (c1 _ HW.out).mono ?_; rintro e w1 ⟨rfl, hbw⟩)
        | (refine wpList_alloc_arr _ rfl 3 rfl _ rfl uz zeroUrl ?_
           intro W3 g3 hg3 hl3 hR3 hG3
           have h3 : w.heap.size ≤ g3 := by have := hbw.size; omega
           replace hbw := below_row0 hbw hG3 (Nat.le_refl _))
        | (refine wpList_store_url rfl rfl _ _ rfl g3 (by exact rfl) Z (by exact rfl) uz hR3 rfl hZ hZ1 ?_
           intro w4 hr3 hG4
           replace hbw := below_row hbw hG4 (Nat.le_refl _) h3)
        | (go_at_call 11; refine (cw _ (uw_below HW.out hbw)).mono ?_; rintro e w5 ⟨rfl, hb5⟩; replace hbw := hbw.trans (hb5.mono hbw.size)))
      go_ret
      exact ⟨rfl, hbw⟩
end

end Go.Proofs.YtdfacgncphmcoaaGreatDoor
