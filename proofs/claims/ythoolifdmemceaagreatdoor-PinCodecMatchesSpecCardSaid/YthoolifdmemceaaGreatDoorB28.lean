/-
The walk of PinCodecMatchesSpec: it returns true (written by tools/gen-PnV.py).
Contract of Digits of the reference of layer 1.
Types of lists of strings; no function of the program.
Contract of Split of the reference of layer 1.
Lists of strings in memory: no function of the program.
-/
import Derived.Test.YthoolifdmemceaaGreatDoorB26
import Derived.Test.YthoolifdmemceaaGreatDoorB27
import Derived.Test.YthoolifdmemceaaGreatDoorB24
import Derived.Deep.RegionHeld3
import Derived.Deep.Cut
import Derived.Test.YthoolifdmemceaaGreatDoorB02
import Derived.Test.YthoolifdmemceaaGreatDoorB00
import Derived.Test.YthoolifdmemceaaGreatDoorRows
namespace Go.Proofs.YthoolifdmemceaaGreatDoor
section
open Go.RowKit Go.Shelf

theorem eqPn_self2 (n : ByteArray) (s : Bool) (x : Int) : eqPn n n s s x x = true := by
  unfold eqPn
  simp
theorem yld_pn {S : World → Prop} {ops : Array Oper} {o : Oper} {a : Act} (p : Operand) (ho : o.op = .load 23 p) (hw : Region.wanted o (yielded ops a.tmps) = true) (g : Nat) (hx : a.eval p = .pointer (some ⟨g, 0, none⟩)) (n : ByteArray) (s : Bool) (x : Int) (hS : ∀ W, S W → RowPn W g n s x) : YieldsIf Tryz.prog ops S o (.agg #[.string n, .bool s, .int .i64 x]) a :=
  Or.inl ⟨hw, fun W hW => by
    have hl := load_pn (hS W hW)
    unfold execOp
    simp only [ho, hx, Instr.loadAt, Instr.sureAddr, Sem.run_bind, Sem.run_pure, Result.andThen_ok, hl]⟩

set_option maxRecDepth 20000 in
set_option maxHeartbeats 8000000 in
theorem walkPnCod (hV : PnVal 9) (hE : PnEnc 5) (hD : PnDec 7) (hC : PnCmp 12) (hRV : PnVal 10) (hRE : PnEnc 6) (hRD : PnDec 8)
    (n : ByteArray) (s : Bool) (x : Int) (A : Option Addr) (len cap : Nat) (w : World) (_ : n.size ≤ maxLen ∧ (Lit.int .i64 x).wf = true) (h8 : ∃ l, Arg8 w A len cap l) :
    Calls Tryz.prog 3 #[.agg #[.string n, .bool s, .int .i64 x], .slice A len cap] w (Yes w) := by
  have c9 := fun W => awake22_any hV hE hD hC W
  unfold Yes at c9
  obtain ⟨l, h8⟩ := h8
  have HA8 := Lib.hid h8
  have hlc := h8.2.1
  have hcap := h8.2.2.1
  clear h8
  by_cases hn : (n.size : Int) ≤ 400
  · by_cases hl : (len : Int) ≤ 5000
    · have hn' : ¬ (400 : Int) < (n.size : Int) := by omega
      have hl' : ¬ (5000 : Int) < (len : Int) := by omega
      have cE := fun W => hE n s x W (by omega)
      have rE := fun W => hRE n s x W (by omega)
      have cV := fun W => hV n s x W (by omega)
      have rV := fun W => hRV n s x W (by omega)
      have cD := fun W hA hB => hD A len cap w.heap.size l W hA hlc hcap (by omega) hB
      have rD := fun W hA hB => hRD A len cap w.heap.size l W hA hlc hcap (by omega) hB
      generalize pinOk ⟨ls n, s, x⟩ = ok at *
      generalize (pinEnc ⟨ls n, s, x⟩).2 = ee at *
      generalize (pinEnc ⟨ls n, s, x⟩).1 = EL at *
      obtain ⟨L, hL⟩ : ∃ L, L = EL.length := ⟨_, rfl⟩
      simp only [← hL] at cE rE
      clear hL
      go_enter Tryz.func3, Tryz.ntmps3
      go_wp2_with (first
        | (refine wpList_box_arr _ rfl 2 rfl _ _ rfl _ #[.string n, .bool s, .int .i64 x] (by exact rfl) (by exact rfl) ?_; intro W1 g1 hg1 hl1 hR1 hG1; have hR1 : RowPn W1 g1 n s x := hR1; obtain ⟨x0, x1, x2⟩ := RowPn.cells hR1)
        | (refine wpList_load_pn (by rfl) _ rfl g1 (by exact rfl) _ _ _ hR1 ?_))
      have hbw := below_row0 (Below.refl w.heap.size w) hG1 (Nat.le_refl _)
      refine (cE _).mono ?_
      rintro e w2 ⟨⟨v, rfl, ho⟩, hb2⟩
      have hr2 : RowPn w2 g1 n s x := Row.below hR1 hb2 hl1
      replace hbw := hbw.trans (hb2.mono hbw.size)
      obtain ⟨A1, k1, rfl, hh1, _⟩ := Has.of_own ho
      clear hR1 hG1 hb2 ho x0 x1 x2 cE
      go_wp2_with (first | (refine wpList_load_pn (by rfl) _ rfl g1 (by exact rfl) _ _ _ hr2 ?_))
      refine (rE _).mono ?_
      rintro e w3 ⟨⟨v, rfl, ho⟩, hb2⟩
      replace hr2 : RowPn w3 g1 n s x := Row.below hr2 hb2 (Row.lt hr2)
      replace hbw := hbw.trans (hb2.mono hbw.size)
      obtain ⟨A2, k2, rfl, hh2, _⟩ := Has.of_own ho
      replace hh1 := (hh1.below hb2).more hb2.size
      clear hb2 ho rE
      go_wp2_with fail
      refine (cD _ (HA8.out.1.below hbw) hbw.size).mono ?_
      rintro e w4 ⟨rfl, hb2⟩
      replace hr2 : RowPn w4 g1 n s x := Row.below hr2 hb2 (Row.lt hr2)
      replace hbw := hbw.trans (hb2.mono hbw.size)
      replace hh1 := (hh1.below hb2).more hb2.size
      replace hh2 := (hh2.below hb2).more hb2.size
      clear hb2 cD
      generalize pdH l = ph at *
      generalize pdS l = ps at *
      generalize pdX l = px at *
      generalize pdN l = pn at *
      generalize pdE l = pe at *
      have heq : ∀ W, (binOp .eql 23 (.agg #[.string ph, .bool ps, .int .i64 px]) (.agg #[.string ph, .bool ps, .int .i64 px])).run Tryz.prog W = .ok (.bool true) W := fun W => by rw [eq_pn, eqPn_self2]
      go_wp2_with (first
        | (refine wpList_alloc_arr _ rfl 9 rfl _ rfl _ zeroPn ?_; intro Wa g9 hga hla hRa hGa; have hRa : RowPn Wa g9 ⟨#[]⟩ false 0 := hRa)
        | (refine wpList_store_pn rfl rfl _ _ rfl g9 (by exact rfl) ph ps px (by exact rfl) _ _ _ hRa ?_
           intro w5 hr9 hGb
           have hb2 := below_row (below_row0 (Below.refl w4.heap.size w4) hGa (Nat.le_refl _)) hGb (Nat.le_refl _) hga
           replace hr2 : RowPn w5 g1 n s x := Row.below hr2 hb2 (Row.lt hr2)
           replace hbw := hbw.trans (hb2.mono hbw.size)
           replace hh1 := (hh1.below hb2).more hb2.size
           replace hh2 := (hh2.below hb2).more hb2.size
           clear hb2 hGa hGb hRa hga hla))
      refine (rD _ (HA8.out.1.below hbw) hbw.size).mono ?_
      rintro e w6 ⟨rfl, hb2⟩
      replace hr2 : RowPn w6 g1 n s x := Row.below hr2 hb2 (Row.lt hr2)
      replace hr9 : RowPn w6 g9 ph ps px := Row.below hr9 hb2 (Row.lt hr9)
      replace hbw := hbw.trans (hb2.mono hbw.size)
      replace hh1 := (hh1.below hb2).more hb2.size
      replace hh2 := (hh2.below hb2).more hb2.size
      clear hb2 rD
      go_upto_region 7 with (first
        | (refine wpList_alloc_arr _ rfl 12 rfl _ rfl _ zeroPn ?_; intro Wa g12 hga hla hRa hGa; have hRa : RowPn Wa g12 ⟨#[]⟩ false 0 := hRa)
        | (refine wpList_store_pn rfl rfl _ _ rfl g12 (by exact rfl) ph ps px (by exact rfl) _ _ _ hRa ?_
           intro w9 hr12 hGb
           have hb2 := below_row (below_row0 (Below.refl w6.heap.size w6) hGa (Nat.le_refl _)) hGb (Nat.le_refl _) hga
           replace hr2 : RowPn w9 g1 n s x := Row.below hr2 hb2 (Row.lt hr2)
           replace hr9 : RowPn w9 g9 ph ps px := Row.below hr9 hb2 (Row.lt hr9)
           replace hbw := hbw.trans (hb2.mono hbw.size)
           replace hh1 := (hh1.below hb2).more hb2.size
           replace hh2 := (hh2.below hb2).more hb2.size
           clear hb2 hGa hGb hRa hga hla))
      go_simp
      replace hr2 : RowPn w9.drew g1 n s x := hr2
      replace hr9 : RowPn w9.drew g9 ph ps px := hr9
      replace hr12 : RowPn w9.drew g12 ph ps px := hr12
      replace hh1 : Has w9.drew w9.drew.heap.size A1 L (EL.map bv) := hh1
      replace hh2 : Has w9.drew w9.drew.heap.size A2 L (EL.map bv) := hh2
      replace hbw := hbw.drew
      refine wp_region_held_drew (S := fun W => RowPn W g1 n s x ∧ RowPn W g9 ph ps px ∧ RowPn W g12 ph ps px) (by kernel_rfl) ⟨hr2, hr9, hr12⟩ (fun _ => ?_)
      generalize w9.drew = wd at *
      refine wpAnyH_take (i := 0) (v := .agg #[.string n, .bool s, .int .i64 x]) rfl (by kernel_rfl) (by kernel_rfl) (by kernel_rfl) (fun _ _ _ h => h) (yld_pn _ rfl (by rfl) g1 (by exact rfl) n s x (fun W hW => hW.1)) ⟨hr2, hr9, hr12⟩ ?_
      try simp only [Act.put, List.getElem_toArray, List.getElem_cons_zero, List.setIfInBounds_toArray, List.set_cons_zero, List.set_cons_succ]
      refine wpAnyH_take (i := 2) (v := .agg #[.string n, .bool s, .int .i64 x]) rfl (by kernel_rfl) (by kernel_rfl) (by kernel_rfl) (fun _ _ _ h => h) (yld_pn _ rfl (by rfl) g1 (by exact rfl) n s x (fun W hW => hW.1)) ⟨hr2, hr9, hr12⟩ ?_
      try simp only [Act.put, List.getElem_toArray, List.getElem_cons_zero, List.getElem_cons_succ, List.setIfInBounds_toArray, List.set_cons_zero, List.set_cons_succ]
      refine wpAnyH_ready (rs := [1]) (by kernel_rfl) (by simp) (AllReadyH.cons rfl (fun K hK => ?_) AllReadyH.nil)
      go_simp
      go_wp2_with fail
      refine (cV _).mono ?_
      rintro e wA ⟨rfl, hbA⟩
      replace hr2 : RowPn wA g1 n s x := Row.below hr2 hbA (Row.lt hr2)
      replace hr9 : RowPn wA g9 ph ps px := Row.below hr9 hbA (Row.lt hr9)
      replace hr12 : RowPn wA g12 ph ps px := Row.below hr12 hbA (Row.lt hr12)
      replace hh1 := (hh1.below hbA).more hbA.size
      replace hh2 := (hh2.below hbA).more hbA.size
      replace hbw := hbw.trans (hbA.mono hbw.size)
      clear hbA
      refine hK.out _ _ ⟨hr2, hr9, hr12⟩ (fun _ => ?_)
      clear hK K
      try simp only [Act.put, List.getElem_toArray, List.getElem_cons_zero, List.getElem_cons_succ, List.setIfInBounds_toArray, List.set_cons_zero, List.set_cons_succ]
      refine wpAnyH_ready (rs := [3]) (by kernel_rfl) (by simp) (AllReadyH.cons rfl (fun K hK => ?_) AllReadyH.nil)
      go_simp
      go_wp2_with fail
      refine (rV _).mono ?_
      rintro e wA ⟨rfl, hbA⟩
      replace hr2 : RowPn wA g1 n s x := Row.below hr2 hbA (Row.lt hr2)
      replace hr9 : RowPn wA g9 ph ps px := Row.below hr9 hbA (Row.lt hr9)
      replace hr12 : RowPn wA g12 ph ps px := Row.below hr12 hbA (Row.lt hr12)
      replace hh1 := (hh1.below hbA).more hbA.size
      replace hh2 := (hh2.below hbA).more hbA.size
      replace hbw := hbw.trans (hbA.mono hbw.size)
      clear hbA
      refine hK.out _ _ ⟨hr2, hr9, hr12⟩ (fun _ => ?_)
      clear hK K
      try simp only [Act.put, List.getElem_toArray, List.getElem_cons_zero, List.getElem_cons_succ, List.setIfInBounds_toArray, List.set_cons_zero, List.set_cons_succ]
      refine wpAnyH_take (i := 4) (v := .bool true) rfl (by kernel_rfl) (by kernel_rfl) (by kernel_rfl) (fun _ _ _ h => h) (Or.inl ⟨by rfl, fun W hW => by go_simp; try (with_reducible rfl)⟩) ⟨hr2, hr9, hr12⟩ ?_
      try simp only [Act.put, List.getElem_toArray, List.getElem_cons_zero, List.getElem_cons_succ, List.setIfInBounds_toArray, List.set_cons_zero, List.set_cons_succ]
      refine wpAnyH_take (i := 5) (v := .bool true) rfl (by kernel_rfl) (by kernel_rfl) (by kernel_rfl) (fun _ _ _ h => h) (Or.inl ⟨by rfl, fun W hW => by go_simp; try (with_reducible rfl)⟩) ⟨hr2, hr9, hr12⟩ ?_
      try simp only [Act.put, List.getElem_toArray, List.getElem_cons_zero, List.getElem_cons_succ, List.setIfInBounds_toArray, List.set_cons_zero, List.set_cons_succ]
      refine wpAnyH_take (i := 6) (v := .slice A1 L k1) rfl (by kernel_rfl) (by kernel_rfl) (by kernel_rfl) (fun _ _ _ h => h) (Or.inl ⟨by rfl, fun W hW => by go_simp; try (with_reducible rfl)⟩) ⟨hr2, hr9, hr12⟩ ?_
      try simp only [Act.put, List.getElem_toArray, List.getElem_cons_zero, List.getElem_cons_succ, List.setIfInBounds_toArray, List.set_cons_zero, List.set_cons_succ]
      refine wpAnyH_take (i := 7) (v := .slice A2 L k2) rfl (by kernel_rfl) (by kernel_rfl) (by kernel_rfl) (fun _ _ _ h => h) (Or.inl ⟨by rfl, fun W hW => by go_simp; try (with_reducible rfl)⟩) ⟨hr2, hr9, hr12⟩ ?_
      try simp only [Act.put, List.getElem_toArray, List.getElem_cons_zero, List.getElem_cons_succ, List.setIfInBounds_toArray, List.set_cons_zero, List.set_cons_succ]
      refine wpAnyH_ready (rs := [8]) (by kernel_rfl) (by simp) (AllReadyH.cons rfl (fun K hK => ?_) AllReadyH.nil)
      go_simp
      go_wp2_with fail
      refine (bytes_any A1 A2 L k1 L k2 _ EL EL _ hh1 hh2).mono ?_
      rintro e wA ⟨rfl, rfl⟩
      refine hK.out _ _ ⟨hr2, hr9, hr12⟩ (fun _ => ?_)
      clear hK K
      try simp only [Act.put, List.getElem_toArray, List.getElem_cons_zero, List.getElem_cons_succ, List.setIfInBounds_toArray, List.set_cons_zero, List.set_cons_succ]
      have eqs : eqL EL EL = true := by unfold eqL; simp
      simp only [eqs]
      refine wpAnyH_take (i := 9) (v := .bool true) rfl (by kernel_rfl) (by kernel_rfl) (by kernel_rfl) (fun _ _ _ h => h) (Or.inl ⟨by rfl, fun W hW => by go_simp; try (with_reducible rfl)⟩) ⟨hr2, hr9, hr12⟩ ?_
      try simp only [Act.put, List.getElem_toArray, List.getElem_cons_zero, List.getElem_cons_succ, List.setIfInBounds_toArray, List.set_cons_zero, List.set_cons_succ]
      refine wpAnyH_take (i := 10) (v := .bool true) rfl (by kernel_rfl) (by kernel_rfl) (by kernel_rfl) (fun _ _ _ h => h) (Or.inl ⟨by rfl, fun W hW => by go_simp; try (with_reducible rfl)⟩) ⟨hr2, hr9, hr12⟩ ?_
      try simp only [Act.put, List.getElem_toArray, List.getElem_cons_zero, List.getElem_cons_succ, List.setIfInBounds_toArray, List.set_cons_zero, List.set_cons_succ]
      refine wpAnyH_take (i := 11) (v := .int .i64 ee) rfl (by kernel_rfl) (by kernel_rfl) (by kernel_rfl) (fun _ _ _ h => h) (Or.inl ⟨by rfl, fun W hW => by go_simp; try (with_reducible rfl)⟩) ⟨hr2, hr9, hr12⟩ ?_
      try simp only [Act.put, List.getElem_toArray, List.getElem_cons_zero, List.getElem_cons_succ, List.setIfInBounds_toArray, List.set_cons_zero, List.set_cons_succ]
      refine wpAnyH_take (i := 12) (v := .int .i64 ee) rfl (by kernel_rfl) (by kernel_rfl) (by kernel_rfl) (fun _ _ _ h => h) (Or.inl ⟨by rfl, fun W hW => by go_simp; try (with_reducible rfl)⟩) ⟨hr2, hr9, hr12⟩ ?_
      try simp only [Act.put, List.getElem_toArray, List.getElem_cons_zero, List.getElem_cons_succ, List.setIfInBounds_toArray, List.set_cons_zero, List.set_cons_succ]
      refine wpAnyH_take (i := 13) (v := .bool true) rfl (by kernel_rfl) (by kernel_rfl) (by kernel_rfl) (fun _ _ _ h => h) (Or.inl ⟨by rfl, fun W hW => by go_simp; try (with_reducible rfl)⟩) ⟨hr2, hr9, hr12⟩ ?_
      try simp only [Act.put, List.getElem_toArray, List.getElem_cons_zero, List.getElem_cons_succ, List.setIfInBounds_toArray, List.set_cons_zero, List.set_cons_succ]
      refine wpAnyH_take (i := 14) (v := .bool true) rfl (by kernel_rfl) (by kernel_rfl) (by kernel_rfl) (fun _ _ _ h => h) (Or.inl ⟨by rfl, fun W hW => by go_simp; try (with_reducible rfl)⟩) ⟨hr2, hr9, hr12⟩ ?_
      try simp only [Act.put, List.getElem_toArray, List.getElem_cons_zero, List.getElem_cons_succ, List.setIfInBounds_toArray, List.set_cons_zero, List.set_cons_succ]
      refine wpAnyH_take (i := 15) (v := .bool true) rfl (by kernel_rfl) (by kernel_rfl) (by kernel_rfl) (fun _ _ _ h => h) (Or.inl ⟨by rfl, fun W hW => by go_simp; try (with_reducible rfl)⟩) ⟨hr2, hr9, hr12⟩ ?_
      try simp only [Act.put, List.getElem_toArray, List.getElem_cons_zero, List.getElem_cons_succ, List.setIfInBounds_toArray, List.set_cons_zero, List.set_cons_succ]
      refine wpAnyH_take (i := 16) (v := .agg #[.string ph, .bool ps, .int .i64 px]) rfl (by kernel_rfl) (by kernel_rfl) (by kernel_rfl) (fun _ _ _ h => h) (yld_pn _ rfl (by rfl) g9 (by exact rfl) ph ps px (fun W hW => hW.2.1)) ⟨hr2, hr9, hr12⟩ ?_
      try simp only [Act.put, List.getElem_toArray, List.getElem_cons_zero, List.getElem_cons_succ, List.setIfInBounds_toArray, List.set_cons_zero, List.set_cons_succ]
      refine wpAnyH_take (i := 17) (v := .agg #[.string ph, .bool ps, .int .i64 px]) rfl (by kernel_rfl) (by kernel_rfl) (by kernel_rfl) (fun _ _ _ h => h) (yld_pn _ rfl (by rfl) g12 (by exact rfl) ph ps px (fun W hW => hW.2.2)) ⟨hr2, hr9, hr12⟩ ?_
      try simp only [Act.put, List.getElem_toArray, List.getElem_cons_zero, List.getElem_cons_succ, List.setIfInBounds_toArray, List.set_cons_zero, List.set_cons_succ]
      refine wpAnyH_take (i := 18) (v := .bool true) rfl (by kernel_rfl) (by kernel_rfl) (by kernel_rfl) (fun _ _ _ h => h) (Or.inl ⟨by rfl, fun W hW => by have h9 := heq W; go_simp; try (with_reducible rfl)⟩) ⟨hr2, hr9, hr12⟩ ?_
      try simp only [Act.put, List.getElem_toArray, List.getElem_cons_zero, List.getElem_cons_succ, List.setIfInBounds_toArray, List.set_cons_zero, List.set_cons_succ]
      refine wpAnyH_take (i := 19) (v := .bool true) rfl (by kernel_rfl) (by kernel_rfl) (by kernel_rfl) (fun _ _ _ h => h) (Or.inl ⟨by rfl, fun W hW => by go_simp; try (with_reducible rfl)⟩) ⟨hr2, hr9, hr12⟩ ?_
      try simp only [Act.put, List.getElem_toArray, List.getElem_cons_zero, List.getElem_cons_succ, List.setIfInBounds_toArray, List.set_cons_zero, List.set_cons_succ]
      refine wpAnyH_take (i := 20) (v := .bool true) rfl (by kernel_rfl) (by kernel_rfl) (by kernel_rfl) (fun _ _ _ h => h) (Or.inl ⟨by rfl, fun W hW => by go_simp; try (with_reducible rfl)⟩) ⟨hr2, hr9, hr12⟩ ?_
      try simp only [Act.put, List.getElem_toArray, List.getElem_cons_zero, List.getElem_cons_succ, List.setIfInBounds_toArray, List.set_cons_zero, List.set_cons_succ]
      refine wpAnyH_take (i := 21) (v := .int .i64 pn) rfl (by kernel_rfl) (by kernel_rfl) (by kernel_rfl) (fun _ _ _ h => h) (Or.inl ⟨by rfl, fun W hW => by go_simp; try (with_reducible rfl)⟩) ⟨hr2, hr9, hr12⟩ ?_
      try simp only [Act.put, List.getElem_toArray, List.getElem_cons_zero, List.getElem_cons_succ, List.setIfInBounds_toArray, List.set_cons_zero, List.set_cons_succ]
      refine wpAnyH_take (i := 22) (v := .int .i64 pn) rfl (by kernel_rfl) (by kernel_rfl) (by kernel_rfl) (fun _ _ _ h => h) (Or.inl ⟨by rfl, fun W hW => by go_simp; try (with_reducible rfl)⟩) ⟨hr2, hr9, hr12⟩ ?_
      try simp only [Act.put, List.getElem_toArray, List.getElem_cons_zero, List.getElem_cons_succ, List.setIfInBounds_toArray, List.set_cons_zero, List.set_cons_succ]
      refine wpAnyH_take (i := 23) (v := .bool true) rfl (by kernel_rfl) (by kernel_rfl) (by kernel_rfl) (fun _ _ _ h => h) (Or.inl ⟨by rfl, fun W hW => by go_simp; try (with_reducible rfl)⟩) ⟨hr2, hr9, hr12⟩ ?_
      try simp only [Act.put, List.getElem_toArray, List.getElem_cons_zero, List.getElem_cons_succ, List.setIfInBounds_toArray, List.set_cons_zero, List.set_cons_succ]
      refine wpAnyH_take (i := 24) (v := .bool true) rfl (by kernel_rfl) (by kernel_rfl) (by kernel_rfl) (fun _ _ _ h => h) (Or.inl ⟨by rfl, fun W hW => by go_simp; try (with_reducible rfl)⟩) ⟨hr2, hr9, hr12⟩ ?_
      try simp only [Act.put, List.getElem_toArray, List.getElem_cons_zero, List.getElem_cons_succ, List.setIfInBounds_toArray, List.set_cons_zero, List.set_cons_succ]
      refine wpAnyH_take (i := 25) (v := .bool true) rfl (by kernel_rfl) (by kernel_rfl) (by kernel_rfl) (fun _ _ _ h => h) (Or.inl ⟨by rfl, fun W hW => by go_simp; try (with_reducible rfl)⟩) ⟨hr2, hr9, hr12⟩ ?_
      try simp only [Act.put, List.getElem_toArray, List.getElem_cons_zero, List.getElem_cons_succ, List.setIfInBounds_toArray, List.set_cons_zero, List.set_cons_succ]
      refine wpAnyH_take (i := 26) (v := .int .i64 pe) rfl (by kernel_rfl) (by kernel_rfl) (by kernel_rfl) (fun _ _ _ h => h) (Or.inl ⟨by rfl, fun W hW => by go_simp; try (with_reducible rfl)⟩) ⟨hr2, hr9, hr12⟩ ?_
      try simp only [Act.put, List.getElem_toArray, List.getElem_cons_zero, List.getElem_cons_succ, List.setIfInBounds_toArray, List.set_cons_zero, List.set_cons_succ]
      refine wpAnyH_take (i := 27) (v := .int .i64 pe) rfl (by kernel_rfl) (by kernel_rfl) (by kernel_rfl) (fun _ _ _ h => h) (Or.inl ⟨by rfl, fun W hW => by go_simp; try (with_reducible rfl)⟩) ⟨hr2, hr9, hr12⟩ ?_
      try simp only [Act.put, List.getElem_toArray, List.getElem_cons_zero, List.getElem_cons_succ, List.setIfInBounds_toArray, List.set_cons_zero, List.set_cons_succ]
      refine wpAnyH_take (i := 28) (v := .bool true) rfl (by kernel_rfl) (by kernel_rfl) (by kernel_rfl) (fun _ _ _ h => h) (Or.inl ⟨by rfl, fun W hW => by go_simp; try (with_reducible rfl)⟩) ⟨hr2, hr9, hr12⟩ ?_
      try simp only [Act.put, List.getElem_toArray, List.getElem_cons_zero, List.getElem_cons_succ, List.setIfInBounds_toArray, List.set_cons_zero, List.set_cons_succ]
      refine wpAnyH_take (i := 29) (v := .bool true) rfl (by kernel_rfl) (by kernel_rfl) (by kernel_rfl) (fun _ _ _ h => h) (Or.inl ⟨by rfl, fun W hW => by go_simp; try (with_reducible rfl)⟩) ⟨hr2, hr9, hr12⟩ ?_
      try simp only [Act.put, List.getElem_toArray, List.getElem_cons_zero, List.getElem_cons_succ, List.setIfInBounds_toArray, List.set_cons_zero, List.set_cons_succ]
      refine wpAnyH_take (i := 30) (v := .bool true) rfl (by kernel_rfl) (by kernel_rfl) (by kernel_rfl) (fun _ _ _ h => h) (Or.inl ⟨by rfl, fun W hW => by go_simp; try (with_reducible rfl)⟩) ⟨hr2, hr9, hr12⟩ ?_
      try simp only [Act.put, List.getElem_toArray, List.getElem_cons_zero, List.getElem_cons_succ, List.setIfInBounds_toArray, List.set_cons_zero, List.set_cons_succ]
      refine wpAnyH_ready (rs := [31]) (by kernel_rfl) (by simp) (AllReadyH.cons rfl (fun K hK => ?_) AllReadyH.nil)
      go_simp
      go_wp2_with fail
      refine (c9 _).mono ?_
      rintro e wA ⟨rfl, hbA⟩
      replace hr2 : RowPn wA g1 n s x := Row.below hr2 hbA (Row.lt hr2)
      replace hr9 : RowPn wA g9 ph ps px := Row.below hr9 hbA (Row.lt hr9)
      replace hr12 : RowPn wA g12 ph ps px := Row.below hr12 hbA (Row.lt hr12)
      replace hh1 := (hh1.below hbA).more hbA.size
      replace hh2 := (hh2.below hbA).more hbA.size
      replace hbw := hbw.trans (hbA.mono hbw.size)
      clear hbA
      refine hK.out _ _ ⟨hr2, hr9, hr12⟩ (fun _ => ?_)
      clear hK K
      try simp only [Act.put, List.getElem_toArray, List.getElem_cons_zero, List.getElem_cons_succ, List.setIfInBounds_toArray, List.set_cons_zero, List.set_cons_succ]
      refine wpAnyH_take (i := 32) (v := .bool true) rfl (by kernel_rfl) (by kernel_rfl) (by kernel_rfl) (fun _ _ _ h => h) (Or.inl ⟨by rfl, fun W hW => by go_simp; try (with_reducible rfl)⟩) ⟨hr2, hr9, hr12⟩ ?_
      try simp only [Act.put, List.getElem_toArray, List.getElem_cons_zero, List.getElem_cons_succ, List.setIfInBounds_toArray, List.set_cons_zero, List.set_cons_succ]
      refine wpAnyH_ready (rs := [33]) (by kernel_rfl) (by simp) (AllReadyH.cons rfl (fun K hK => ?_) AllReadyH.nil)
      go_simp
      refine hK.out _ _ ⟨hr2, hr9, hr12⟩ (fun _ => ?_)
      clear hK K
      try simp only [Act.put, List.getElem_toArray, List.getElem_cons_zero, List.getElem_cons_succ, List.setIfInBounds_toArray, List.set_cons_zero, List.set_cons_succ]
      refine wpAnyH_done (by kernel_rfl) ?_ _
      go_wp2
      go_ret
      exact ⟨rfl, hbw⟩
    · have hn' : ¬ (400 : Int) < (n.size : Int) := by omega
      have hl' : (5000 : Int) < (len : Int) := by omega
      go_enter Tryz.func3, Tryz.ntmps3
      go_wp2_with (first
        | (refine wpList_box_arr _ rfl 2 rfl _ _ rfl _ #[.string n, .bool s, .int .i64 x] (by exact rfl) (by exact rfl) ?_; intro W1 g1 hg1 hl1 hR1 hG1; have hR1 : RowPn W1 g1 n s x := hR1; obtain ⟨x0, x1, x2⟩ := RowPn.cells hR1))
      have hb1 := below_row0 (Below.refl w.heap.size w) hG1 (Nat.le_refl _)
      refine (c9 _).mono ?_
      rintro e w2 ⟨rfl, hb2⟩
      go_wp2
      go_ret
      exact ⟨rfl, hb1.trans (hb2.mono hb1.size)⟩
  · have hn' : (400 : Int) < (n.size : Int) := by omega
    go_enter Tryz.func3, Tryz.ntmps3
    go_wp2_with (first
      | (refine wpList_box_arr _ rfl 2 rfl _ _ rfl _ #[.string n, .bool s, .int .i64 x] (by exact rfl) (by exact rfl) ?_; intro W1 g1 hg1 hl1 hR1 hG1; have hR1 : RowPn W1 g1 n s x := hR1; obtain ⟨x0, x1, x2⟩ := RowPn.cells hR1))
    have hb1 := below_row0 (Below.refl w.heap.size w) hG1 (Nat.le_refl _)
    refine (c9 _).mono ?_
    rintro e w2 ⟨rfl, hb2⟩
    go_wp2
    go_ret
    exact ⟨rfl, hb1.trans (hb2.mono hb1.size)⟩
end

section
open Go.RowKit

set_option maxHeartbeats 1000000 in
theorem refDigits_any (s : ByteArray) (w : World) (hs : s.size ≤ 1000000000) :
    Calls Tryz.prog 39 #[.string s] w fun e w' => e = .returned (.bool (digitsB s)) ∧ w = w' := by
  go_enter Tryz.func39, Tryz.ntmps39
  go_wp2
  go_loop [3] (fun i => ∃ k : Nat, k ≤ s.size ∧ i = .int .i64 k ∧ ((ls s).take k).all digitU = true) (fun i => s.size - (intOf i).toNat)
  case atStart => exact ⟨0, Nat.zero_le _, rfl, rfl⟩
  case round =>
    obtain ⟨k, hk, rfl, hall⟩ := hrel
    have HA := Lib.hid hall
    clear hall
    by_cases hlt : k < s.size
    · by_cases h1 : (s[k].toNat : Int) < 48
      · have HF := Lib.hid (digits_no s k hlt (by simp [digitU, digitB]; omega))
        go_wp2
        go_ret
        exact ⟨ret_bool HF.out.symm, rfl⟩
      · by_cases h2 : 57 < (s[k].toNat : Int)
        · have HF := Lib.hid (digits_no s k hlt (by simp [digitU, digitB]; omega))
          go_wp2
          go_ret
          exact ⟨ret_bool HF.out.symm, rfl⟩
        · have HD : Hid (digitU s[k] = true) := by show _ = _; simp [digitU, digitB]; omega
          go_wp2
          go_round
          case rel => exact ⟨k + 1, by omega, by go_num, take_all_succ digitU s k hlt HA.out HD.out⟩
          case measure => simp [intOf]; omega
    · obtain rfl : k = s.size := by omega
      have HF := Lib.hid (digits_yes s HA.out)
      go_wp2
      go_ret
      exact ⟨ret_bool (by rw [HF.out, toList_ls]), rfl⟩
end

section
open Go.RowKit

theorem tyStrs : Tryz.prog.underlying 49 = some (.slice 9) := by kernel_rfl
theorem infoStr : (Tryz.prog.info? 9).map (fun i => (i.zero, i.size, i.bytes)) = some (some (.string ByteArray.empty), 1, 16) := by kernel_rfl

def wv (acc : List (List UInt8)) : List Value := acc.map fun l => .string (bs l)
theorem wv_snoc (acc : List (List UInt8)) (l : List UInt8) : wv acc ++ [.string (bs l)] = wv (acc ++ [l]) := by simp [wv]
theorem wv_length (acc : List (List UInt8)) : (wv acc).length = acc.length := by simp [wv]
theorem wv_get (acc : List (List UInt8)) (k : Nat) (h : k < acc.length) : (wv acc)[k]'(by rw [wv_length]; exact h) = .string (bs acc[k]) := by simp [wv]
end

section
open Go.RowKit

/-- A list of strings that the call has made. -/
def ListPost (l : List (List UInt8)) (w : World) (e : Ending) (w' : World) : Prop :=
  ∃ v n, e = .returned v ∧ w'.ownsRow w.heap.size 9 1 v n (wv l) ∧ Below w.heap.size w w'
def SplitAt (c : UInt8) (s : ByteArray) (acc : List (List UInt8)) (cur : List UInt8) (i : Nat) : Prop := acc ++ splitG c ((ls s).drop i) cur = splitL c (ls s)
theorem splitAt_start (c : UInt8) (s : ByteArray) : SplitAt c s [] [] 0 := rfl
theorem drop_ls (s : ByteArray) (i : Nat) (h : i < s.size) : (ls s).drop i = s[i] :: (ls s).drop (i + 1) := by
  rw [List.drop_eq_getElem_cons (by rw [ls_length]; exact h), ls_getE s i h]
  rfl
theorem splitAt_byte {c : UInt8} {s : ByteArray} {acc cur} {i : Nat} (h : SplitAt c s acc cur i) (hi : i < s.size) (hb : s[i] ≠ c) : SplitAt c s acc (cur ++ [s[i]]) (i + 1) := by
  unfold SplitAt at h ⊢
  rw [drop_ls s i hi, splitG, if_neg hb] at h
  exact h
theorem splitAt_dot {c : UInt8} {s : ByteArray} {acc cur} {i : Nat} (h : SplitAt c s acc cur i) (hi : i < s.size) (hb : s[i] = c) : SplitAt c s (acc ++ [cur]) [] (i + 1) := by
  unfold SplitAt at h ⊢
  rw [drop_ls s i hi, splitG, if_pos hb] at h
  rw [List.append_assoc]
  exact h
theorem splitAt_end {c : UInt8} {s : ByteArray} {acc cur} (h : SplitAt c s acc cur s.size) : acc ++ [cur] = splitL c (ls s) := by
  unfold SplitAt at h
  rw [drop_ls_all, splitG] at h
  exact h

set_option maxRecDepth 20000 in
set_option maxHeartbeats 2000000 in
theorem refSplit_any (s : ByteArray) (c : UInt8) (w : World) (hs : s.size ≤ 1000000000) :
    Calls Tryz.prog 30 #[.string s, .int .u8 (c.toNat : Int)] w (ListPost (splitL c (ls s)) w) := by
  obtain ⟨i9, hi9, hz0, hz1, hz2⟩ := info_parts infoStr
  obtain ⟨cv, hcv⟩ : ∃ x : Int, x = (c.toNat : Int) := ⟨_, rfl⟩
  have HC := Lib.hid hcv
  rw [← hcv]
  clear hcv
  go_enter Tryz.func30, Tryz.ntmps30
  go_wp2
  go_loopw [5, 6, 7] (fun v f i wr => ∃ (k m : Nat) (acc : List (List UInt8)), m ≤ k ∧ k ≤ s.size + 1 ∧ acc.length ≤ k ∧ i = .int .i64 k ∧ f = .int .i64 m ∧ Hid (k ≤ s.size → SplitAt c s acc (sub s m k) k) ∧ Hid (s.size < k → acc = splitL c (ls s)) ∧
      wr.ownsRow w.heap.size 9 1 v acc.length (wv acc) ∧ Below w.heap.size w wr) (fun _ _ i _ => s.size + 1 - (intOf i).toNat)
  case atStart => exact ⟨0, 0, [], Nat.le_refl _, by omega, Nat.le_refl _, rfl, rfl, Lib.hid (fun _ => by rw [sub_self]; exact splitAt_start c s), Lib.hid (fun h => by omega), World.ownsRow_nil _ _ _ _, Below.refl _ _⟩
  case round =>
    obtain ⟨k, m, acc, hmk, hk, hal, rfl, rfl, HAT, HEND, hown, hb⟩ := hrel
    by_cases hlt : k < s.size
    · by_cases hsp : s[k] = c
      · have hq : ((s[k].toNat : Int) == cv) = true := by rw [HC.out, hsp]; simp
        have HSP := Lib.hid hsp
        clear hsp
        go_wp2_with (at_builtin; refine wpList_app_one _ rfl _ _ 49 rfl w.heap.size 9 i9 (.string ByteArray.empty) 16 tyStrs hi9 hz0 hz1 hz2 rfl _ (by exact rfl) _ _ _ (by exact rfl) hown (by exact rfl) (by unfold maxLen; omega) (by omega) hb (Nat.le_refl _) ?_; intro v' w' hown' hb' _)
        go_roundw
        case rel =>
          refine ⟨k + 1, k + 1, acc ++ [sub s m k], Nat.le_refl _, by omega, by simp; omega, by go_num, by go_num, Lib.hid (fun _ => ?_), Lib.hid (fun h => by omega), ?_, hb'⟩
          · rw [sub_self]; exact splitAt_dot (HAT.out (by omega)) hlt HSP.out
          · rw [← wv_snoc, ← sub_extract]; simpa using hown'
        case measure => simp [intOf]; omega
      · have hq : ((s[k].toNat : Int) == cv) = false := by
          rw [HC.out, beq_eq_false_iff_ne]
          exact fun e => hsp (UInt8.toNat_inj.1 (by omega))
        have HSP : Hid (s[k] ≠ c) := Lib.hid hsp
        clear hsp
        go_wp2
        go_roundw
        case rel =>
          refine ⟨k + 1, m, acc, by omega, by omega, by omega, by go_num, rfl, Lib.hid (fun _ => ?_), Lib.hid (fun h => by omega), hown, hb⟩
          rw [sub_succ s m k hmk hlt]; exact splitAt_byte (HAT.out (by omega)) hlt HSP.out
        case measure => simp [intOf]; omega
    · by_cases hle : k ≤ s.size
      · obtain rfl : k = s.size := by omega
        go_wp2_with (at_builtin; refine wpList_app_one _ rfl _ _ 49 rfl w.heap.size 9 i9 (.string ByteArray.empty) 16 tyStrs hi9 hz0 hz1 hz2 rfl _ (by exact rfl) _ _ _ (by exact rfl) hown (by exact rfl) (by unfold maxLen; omega) (by omega) hb (Nat.le_refl _) ?_; intro v' w' hown' hb' _)
        go_roundw
        case rel =>
          refine ⟨s.size + 1, s.size + 1, acc ++ [sub s m s.size], Nat.le_refl _, by omega, by simp; omega, by go_num, by go_num, Lib.hid (fun h => by omega), Lib.hid (fun _ => splitAt_end (HAT.out (Nat.le_refl _))), ?_, hb'⟩
          rw [← wv_snoc, ← sub_extract]; simpa using hown'
        case measure => simp [intOf]
      · obtain rfl : k = s.size + 1 := by omega
        have HE : Hid (acc = splitL c (ls s)) := Lib.hid (HEND.out (by omega))
        go_wp2
        go_ret
        exact ⟨_, _, rfl, by rw [← HE.out]; exact hown, hb⟩
end

section
open Go.RowKit

/-- A list of strings, as a slice. -/
def StrsPost (l : List (List UInt8)) (w : World) (e : Ending) (w' : World) : Prop :=
  ∃ A c, e = .returned (.slice A l.length c) ∧ l.length ≤ c ∧ Has w' w'.heap.size A l.length (wv l) ∧ Below w.heap.size w w'

theorem str_cell {w : World} {B n : Nat} {A : Option Addr} {l : List (List UInt8)} (h : Has w B A n (wv l)) (k : Nat) (hk : k < n) : ∃ b off, A = some ⟨b, off, none⟩ ∧ w.cell? ⟨b, off + k, none⟩ = some (.string (bs (l.getD k []))) := by
  have hl : (wv l).length = n := h.1
  rw [wv_length] at hl
  obtain ⟨b, off, e, _, hc⟩ := h.at_ hk
  refine ⟨b, off, e, ?_⟩
  rw [hc, wv_get l k (by omega), List.getD_eq_getElem?_getD, List.getElem?_eq_getElem (by omega), Option.getD_some]

theorem getD_last {α : Type _} (l : List α) (d : α) (_h : 0 < l.length) : l.getD (l.length - 1) d = l.getLastD d := by
  rw [List.getLastD_eq_getLast?, List.getLast?_eq_getElem?, List.getD_eq_getElem?_getD]
theorem last_nil {l : List (List UInt8)} (h : 0 < l.length) : (l.getLast? = some [] ↔ l.getD (l.length - 1) [1] = []) := by
  rw [List.getLast?_eq_getElem?, List.getD_eq_getElem?_getD, List.getElem?_eq_getElem (by omega)]
  simp
theorem bs_nil_iff (l : List UInt8) : ((bs l).toList == ([] : List UInt8)) = decide (l = []) := by
  rw [toList_ls, ls_bs]
  cases l <;> rfl
end

end Go.Proofs.YthoolifdmemceaaGreatDoor
