/-
The reference's Valid and Format of package url.
Trustworthy of package origin and of its reference (written by tools/gen-OrT.py).
Of of package origin (written by tools/gen-OrF.py).
rootOf and Format of package origin (written by tools/gen-OrG.py).
-/
import Derived.Test.YtekaljeicfjkjaaGreatDoorK33
import Derived.Test.YtekaljeicfjkjaaGreatDoorK36
import Derived.Test.YtekaljeicfjkjaaGreatDoorK26
import Derived.Deep.RegionHeld3
namespace Go.Proofs.YtekaljeicfjkjaaGreatDoor
section
open Go.RowKit Go.Shelf
set_option maxHeartbeats 16000000
end

section
open Go.RowKit Go.Shelf
set_option maxHeartbeats 16000000
theorem zwk (u : Uv) : ∃ q1 q2 q3 q4 q5 q6 b1 b2 : Bool, ((bs u.scheme).toList == ([104, 116, 116, 112, 115] : List UInt8)) = q1 /\ ((bs u.scheme).toList == ([119, 115, 115] : List UInt8)) = q2 /\ ((bs u.scheme).toList == ([102, 105, 108, 101] : List UInt8)) = q3 /\ ((bs u.scheme).toList == ([97, 98, 111, 117, 116] : List UInt8)) = q4 /\ ((bs u.scheme).toList == ([104, 116, 116, 112] : List UInt8)) = q5 /\ ((bs u.scheme).toList == ([119, 115] : List UInt8)) = q6 /\ ((bs u.rest).toList == ([98, 108, 97, 110, 107] : List UInt8)) = b1 /\ ((bs u.rest).toList == ([115, 114, 99, 100, 111, 99] : List UInt8)) = b2 /\
 zv6 u = (z6e u && (if (q1 || q2 || q3) = true then true else if q4 = true then (b1 || b2) else (z6s u.scheme && zv5 u.host))) /\
 zv6 u = (z6e u && (if (q1 || q2 || q3) = true then true else if (q5 || q6) = true then zv5 u.host else if q4 = true then (b1 || b2) else false)) := by
 refine ⟨_, _, _, _, _, _, _, _, rfl, rfl, rfl, rfl, rfl, rfl, rfl, rfl, ?_, ?_⟩
 ·simp only [zb3, zb0]
  rfl
 ·simp only [zb3, zb0]
  unfold zv6
  congr 1
  obtain ⟨s, hs⟩ : ∃ s, s = u.scheme := ⟨_, rfl⟩
  rw [<- hs]
  by_cases h5 : s = z6n
  ·rw [h5]
   cases zv5 u.host <;> rfl
  ·by_cases h6 : s = sWs
   ·rw [h6]
    cases zv5 u.host <;> rfl
   ·have e5 : (s == ([104, 116, 116, 112] : List UInt8)) = false := by rw [beq_eq_false_iff_ne]; exact h5
    have e6 : (s == ([119, 115] : List UInt8)) = false := by rw [beq_eq_false_iff_ne]; exact h6
    have ei : z6q s = false := by unfold z6q; show ((s == ([104, 116, 116, 112] : List UInt8)) || (s == ([119, 115] : List UInt8))) = false; rw [e5, e6]; rfl
    rw [e5, e6]
    unfold z6s
    rw [ei]
    show (if ((s == z6o || s == z6p || s == zv1) = true) then true else _) = (if ((s == z6o || s == z6p || s == zv1) = true) then true else _)
    cases ha : (s == z6o) <;> cases hb : (s == z6p) <;> cases hc : (s == zv1) <;> simp <;> rfl
set_option maxRecDepth 20000 in
theorem zwl (hPar : zfj 84) (hF : zf9 51) (hVal : zft 43) (hCov : zd4 44) (u : Uv) (h : USm u) (w : World) (hw : Uw w) :
 Calls Tryz.prog 27 #[.agg u.cells] w fun e w' => e = .returned (.bool (zv6 u)) /\ Below w.heap.size w w' := by
 have hC := z9g u
 have hH : u.host.cells.size = 11 := rfl
 have c1 := fun W hW => z6h hPar hF u h W hW
 have c3 := fun W => zvj hVal hCov u.host W h.wf (Nat.le_trans h.hn (by decide))
 have c2 := fun W => z4g (bs u.scheme) W
 rw [zb0] at c2
 unfold Hv.val at c3
 obtain ⟨q1, q2, q3, q4, q5, q6, b1, b2, t1, t2, t3, t4, t5, t6, t7, t8, eP, eR⟩ := zwk u
 rw [eP]
 have HW := jL hw
 clear eP eR
 generalize z6s u.scheme = sp at *
 generalize zv5 u.host = lp at *
 generalize z6e u = vx at *
 generalize u.cells = C at *
 generalize u.host.cells = H at *
 generalize bs u.scheme = S at *
 generalize bs u.user = U at *
 generalize bs u.host.name = N at *
 generalize bs u.rest = R at *
 have hcs : ∀ vx q1 q2 q3 q4 b1 b2 sp : Bool, (vx = true /\ q1 = true) \/ (vx = true /\ q1 = false /\ q2 = true) \/ (vx = true /\ q1 = false /\ q2 = false /\ q3 = true) \/ (vx = true /\ q1 = false /\ q2 = false /\ q3 = false /\ q4 = true /\ b1 = true) \/ (vx = true /\ q1 = false /\ q2 = false /\ q3 = false /\ q4 = true /\ b1 = false /\ b2 = true) \/ (vx = true /\ q1 = false /\ q2 = false /\ q3 = false /\ q4 = true /\ b1 = false /\ b2 = false) \/ (vx = true /\ q1 = false /\ q2 = false /\ q3 = false /\ q4 = false /\ sp = true) \/ (vx = true /\ q1 = false /\ q2 = false /\ q3 = false /\ q4 = false /\ sp = false) \/ (vx = false) := by intro vx q1 q2 q3 q4 b1 b2 sp; cases vx <;> cases q1 <;> cases q2 <;> cases q3 <;> cases q4 <;> cases b1 <;> cases b2 <;> cases sp <;> decide
 rcases hcs vx q1 q2 q3 q4 b1 b2 sp with ⟨rfl, rfl⟩ | ⟨rfl, rfl, rfl⟩ | ⟨rfl, rfl, rfl, rfl⟩ | ⟨rfl, rfl, rfl, rfl, rfl, rfl⟩ | ⟨rfl, rfl, rfl, rfl, rfl, rfl, rfl⟩ | ⟨rfl, rfl, rfl, rfl, rfl, rfl, rfl⟩ | ⟨rfl, rfl, rfl, rfl, rfl, rfl⟩ | ⟨rfl, rfl, rfl, rfl, rfl, rfl⟩ | rfl
 all_goals
  clear hcs
  go_enter Tryz.func27, Tryz.ntmps27
  go_wp2_with (first
   | (refine zax _ rfl 1 rfl _ _ rfl _ C (by exact rfl) (by exact rfl) ?_; intro W1 g1 hg1 hl1 hR1 hG1; have hbw := zav (Below.refl w.heap.size w) hG1 jH)
   | (refine z9b (by rfl) _ rfl g1 (by exact rfl) C hR1 hC.sz ?_)
   | (go_at_call 12; refine (c1 _ (z52 HW.out hbw)).mono ?_; rintro e w5 ⟨rfl, hb5⟩
      replace hR1 : z89 w5 g1 C := Row.below hR1 hb5 (Row.lt hR1)
      replace hbw := hbw.trans (hb5.mono hbw.size)
      clear hb5
      obtain ⟨e0, e1, e3, e13, e14⟩ := hC.cell hR1)
   | (go_at_call 14; refine (c2 _).mono ?_; rintro e w6 ⟨rfl, rfl⟩)
   | refine z9c rfl _ rfl g1 (by exact rfl) C hR1 H hC.hh hH ?_
   | (go_at_call 25; refine (c3 _).mono ?_; rintro e w7 ⟨rfl, hb7⟩; replace hbw := hbw.trans (hb7.mono hbw.size)))
  all_goals
   go_ret
   exact ⟨by first | rfl | simp, hbw⟩
end

section
open Go.RowKit Go.Shelf
set_option maxHeartbeats 16000000
theorem zu6 {u : Uv} (h : z6s u.scheme = false) : ofL u = (false, ov0) := by unfold ofL; rw [h, Bool.and_false]; rfl
theorem zu7 {u : Uv} (h : z6e u = false) : ofL u = (false, ov0) := by unfold ofL; rw [h]; rfl
theorem zu8 {u : Uv} (h : z6s u.scheme = true) (h2 : z6e u = true) : ofL u = (true, ⟨u.scheme, u.host, zvw u⟩) := by unfold ofL; rw [h, h2]; rfl
def zu9 (w : World) (q : Bool × Ov) (e : Ending) (w' : World) : Prop := e = .returned (.tuple #[.agg q.2.cells, .bool q.1]) /\ Below w.heap.size w w'
set_option maxRecDepth 20000 in
theorem zva (hPar : zfj 84) (hF : zf9 51) (u : Uv) (h : USm u) (w : World) (hw : Uw w) :
 Calls Tryz.prog 23 #[.agg u.cells] w (zu9 w (ofL u)) := by
 have hC := z9g u
 have hH2 : u.host.cells.size = 11 := rfl
 have c1 := fun W => z4g (bs u.scheme) W
 rw [zb0] at c1
 have c2 := fun W hW => z6h hPar hF u h W hW
 have HW := jL hw
 cases hsp : z6s u.scheme with
 | false =>
   have HE := jL (zu6 hsp)
   rw [hsp] at c1
   generalize u.cells = C at *
   generalize u.host.cells = H at *
   generalize bs u.scheme = S at *
   generalize bs u.host.name = N at *
   clear hsp h hw c2
   go_enter Tryz.func23, Tryz.ntmps23
   go_wp2_with (first
    | (refine zax _ rfl 1 rfl _ _ rfl _ C (by exact rfl) (by exact rfl) ?_
       intro W1 g1 hg1 hl1 hr1 hG1
       have hbw := zav (Below.refl w.heap.size w) hG1 jH
       obtain ⟨e0, e1, e3, e13, e14⟩ := hC.cell hr1)
    | (refine zay _ rfl 2 rfl _ rfl oz zwn ?_
       intro W2 g2 hg2 hl2 hr2 hG2
       have hne12 : g1 ≠ g2 := by have := Row.lt hr1; omega
       have hle2 : w.heap.size <= g2 := by have := hbw.size; omega
       replace hr1 : z89 W2 g1 C := Row.grown0 hr1 hG2
       replace hr2 : zwq W2 g2 oz := hr2
       replace hbw := zav hbw hG2 jH
       clear e0 e1 e3 e13 e14
       obtain ⟨e0, e1, e3, e13, e14⟩ := hC.cell hr1)
    | (go_at_call 14; refine (c1 _).mono ?_; rintro e w5 ⟨rfl, rfl⟩)
    | (refine zwu rfl rfl _ _ rfl g2 (by exact rfl) oz (by exact rfl) oz hr2 rfl rfl (zwm _ _ _ _ _ _) ?_
       intro w8 hr8 hG8
       have hb8 := zau hbw hG8 jH hle2))
   exact zwv 2 3 rfl g2 rfl oz hr8 rfl _ rfl rfl ⟨by rw [HE.out]; rfl, hb8⟩
 | true =>
 cases hva : z6e u with
 | false =>
   have HE := jL (zu7 hva)
   rw [hsp] at c1
   rw [hva] at c2
   generalize u.cells = C at *
   generalize u.host.cells = H at *
   generalize bs u.scheme = S at *
   generalize bs u.host.name = N at *
   clear hsp hva h hw
   go_enter Tryz.func23, Tryz.ntmps23
   go_wp2_with (first
    | (refine zax _ rfl 1 rfl _ _ rfl _ C (by exact rfl) (by exact rfl) ?_
       intro W1 g1 hg1 hl1 hr1 hG1
       have hbw := zav (Below.refl w.heap.size w) hG1 jH
       obtain ⟨e0, e1, e3, e13, e14⟩ := hC.cell hr1)
    | (refine zay _ rfl 2 rfl _ rfl oz zwn ?_
       intro W2 g2 hg2 hl2 hr2 hG2
       have hne12 : g1 ≠ g2 := by have := Row.lt hr1; omega
       have hle2 : w.heap.size <= g2 := by have := hbw.size; omega
       replace hr1 : z89 W2 g1 C := Row.grown0 hr1 hG2
       replace hr2 : zwq W2 g2 oz := hr2
       replace hbw := zav hbw hG2 jH
       clear e0 e1 e3 e13 e14
       obtain ⟨e0, e1, e3, e13, e14⟩ := hC.cell hr1)
    | (go_at_call 14; refine (c1 _).mono ?_; rintro e w5 ⟨rfl, rfl⟩)
    | (refine z9b (by rfl) _ rfl g1 (by exact rfl) C hr1 hC.sz ?_)
    | (go_at_call 12; refine (c2 _ (z52 HW.out hbw)).mono ?_; rintro e wd0 ⟨rfl, hb5⟩
       clear e0 e1 e3 e13 e14
       replace hr1 : z89 wd0 g1 C := Row.below hr1 hb5 (Row.lt hr1)
       replace hr2 : zwq wd0 g2 oz := Row.below hr2 hb5 (Row.lt hr2)
       replace hbw := hbw.trans (hb5.mono hbw.size)
       clear hb5)
    | (refine zwu rfl rfl _ _ rfl g2 (by exact rfl) oz (by exact rfl) oz hr2 rfl rfl (zwm _ _ _ _ _ _) ?_
       intro w8 hr8 hG8
       have hb8 := zau hbw hG8 jH hle2))
   exact zwv 2 3 rfl g2 rfl oz hr8 rfl _ rfl rfl ⟨by rw [HE.out]; rfl, hb8⟩
 | true =>
   rw [hsp] at c1
   rw [hva] at c2
   have c3 := fun W => zur (bs u.scheme) W (by rw [zb5]; have := h.s1; omega)
   have c5 := fun W => zur (bs u.host.name) W (by rw [zb5]; have := h.hn; omega)
   have c4 := fun W => z6j u W
   rw [show (if u.port = -1 then z6r u.scheme else u.port) = zvw u from rfl] at c4
   have HE := jL (zu8 hsp hva)
   have hO := zww ⟨u.scheme, u.host, zvw u⟩
   obtain ⟨O, hOe⟩ : ∃ O, O = (Ov.mk u.scheme u.host (zvw u)).cells := ⟨_, rfl⟩
   rw [<- hOe] at hO
   have HOe := jL hOe
   obtain ⟨sch, us, ⟨k, nm, v4, g⟩, prt, rst⟩ := u
   obtain ⟨x0, x1, x2, x3, x4, x5, x6, x7, rfl⟩ := zf5 g h.wf.2.1
   have HH : Hid ((Hv.mk k nm v4 [x0, x1, x2, x3, x4, x5, x6, x7]).cells = #[.int .i64 k, .string (bs nm), .int .u32 (v4 : Nat), .int .u16 (x0 : Nat), .int .u16 (x1 : Nat), .int .u16 (x2 : Nat), .int .u16 (x3 : Nat), .int .u16 (x4 : Nat), .int .u16 (x5 : Nat), .int .u16 (x6 : Nat), .int .u16 (x7 : Nat)]) := jL rfl
   have HO : Hid (O = #[.string (bs sch), .int .i64 k, .string (bs nm), .int .u32 (v4 : Nat), .int .u16 (x0 : Nat), .int .u16 (x1 : Nat), .int .u16 (x2 : Nat), .int .u16 (x3 : Nat), .int .u16 (x4 : Nat), .int .u16 (x5 : Nat), .int .u16 (x6 : Nat), .int .u16 (x7 : Nat), .int .i64 (zvw ⟨sch, us, ⟨k, nm, v4, [x0, x1, x2, x3, x4, x5, x6, x7]⟩, prt, rst⟩)]) := jL (by rw [hOe]; rfl)
   clear hOe
   simp only at c1 c2 c3 c4 c5 hC hO hH2
   generalize zvw ⟨sch, us, ⟨k, nm, v4, [x0, x1, x2, x3, x4, x5, x6, x7]⟩, prt, rst⟩ = q at *
   generalize (Uv.mk sch us ⟨k, nm, v4, [x0, x1, x2, x3, x4, x5, x6, x7]⟩ prt rst).cells = C at *
   generalize (Hv.mk k nm v4 [x0, x1, x2, x3, x4, x5, x6, x7]).cells = H at *
   generalize bs sch = S at *
   generalize bs nm = N at *
   generalize (v4 : Int) = v at *
   generalize (x0 : Int) = y0 at *
   generalize (x1 : Int) = y1 at *
   generalize (x2 : Int) = y2 at *
   generalize (x3 : Int) = y3 at *
   generalize (x4 : Int) = y4 at *
   generalize (x5 : Int) = y5 at *
   generalize (x6 : Int) = y6 at *
   generalize (x7 : Int) = y7 at *
   clear hsp hva h hw
   go_enter Tryz.func23, Tryz.ntmps23
   go_upto_region 3 with (first
    | (refine zax _ rfl 1 rfl _ _ rfl _ C (by exact rfl) (by exact rfl) ?_
       intro W1 g1 hg1 hl1 hr1 hG1
       have hbw := zav (Below.refl w.heap.size w) hG1 jH
       obtain ⟨e0, e1, e3, e13, e14⟩ := hC.cell hr1)
    | (refine zay _ rfl 2 rfl _ rfl oz zwn ?_
       intro W2 g2 hg2 hl2 hr2 hG2
       have hne12 : g1 ≠ g2 := by have := Row.lt hr1; omega
       have hle2 : w.heap.size <= g2 := by have := hbw.size; omega
       replace hr1 : z89 W2 g1 C := Row.grown0 hr1 hG2
       replace hr2 : zwq W2 g2 oz := hr2
       replace hbw := zav hbw hG2 jH
       clear e0 e1 e3 e13 e14
       obtain ⟨e0, e1, e3, e13, e14⟩ := hC.cell hr1)
    | (go_at_call 14; refine (c1 _).mono ?_; rintro e w5 ⟨rfl, rfl⟩)
    | (refine z9b (by rfl) _ rfl g1 (by exact rfl) C hr1 hC.sz ?_)
    | (go_at_call 12; refine (c2 _ (z52 HW.out hbw)).mono ?_; rintro e wd0 ⟨rfl, hb5⟩
       clear e0 e1 e3 e13 e14
       replace hr1 : z89 wd0 g1 C := Row.below hr1 hb5 (Row.lt hr1)
       replace hr2 : zwq wd0 g2 oz := Row.below hr2 hb5 (Row.lt hr2)
       replace hbw := hbw.trans (hb5.mono hbw.size)
       clear hb5))
   go_cut [4] from 15 to 23 (fun p wx => ∃ g4, p = .pointer (some ⟨g4, 0, none⟩) /\ z89 wx g1 C /\ zwq wx g2 oz /\ zwq wx g4 O /\ w.heap.size <= g4 /\ g1 ≠ g4 /\ g2 ≠ g4 /\ Below w.heap.size w wx)
   case first =>
    replace hr1 : z89 wd0.drew g1 C := hr1
    replace hr2 : zwq wd0.drew g2 oz := hr2
    replace hbw := hbw.drew
    refine wp_region_held_drew (S := fun W => z89 W g1 C) (by kernel_rfl) hr1 (fun _ => ?_)
    generalize wd0.drew = wd at *
    refine wpAnyH_take (i := 0) (v := .pointer (some ⟨g1, 0, none⟩)) rfl (by kernel_rfl) (by kernel_rfl) (by kernel_rfl) (fun _ _ _ h => h) (Or.inl ⟨by rfl, fun W hW => by go_simp; try (with_reducible rfl)⟩) hr1 ?_
    try simp only [Act.put, List.getElem_toArray, List.getElem_cons_zero, jqd, jqe, jqf]
    refine wpAnyH_take (i := 1) (v := .string S) rfl (by kernel_rfl) (by kernel_rfl) (by kernel_rfl) (fun _ _ _ h => h) (Or.inl ⟨by rfl, fun W hW => by have h9 := (hC.cell hW).1; go_simp; try (with_reducible rfl)⟩) hr1 ?_
    try simp only [Act.put, List.getElem_toArray, List.getElem_cons_zero, List.getElem_cons_succ, jqd, jqe, jqf]
    refine wpAnyH_take (i := 3) (v := .pointer (some ⟨g1, 2, none⟩)) rfl (by kernel_rfl) (by kernel_rfl) (by kernel_rfl) (fun _ _ _ h => h) (Or.inl ⟨by rfl, fun W hW => by go_simp; try (with_reducible rfl)⟩) hr1 ?_
    try simp only [Act.put, List.getElem_toArray, List.getElem_cons_zero, List.getElem_cons_succ, jqd, jqe, jqf]
    refine wpAnyH_take (i := 4) (v := .agg H) rfl (by kernel_rfl) (by kernel_rfl) (by kernel_rfl) (fun _ _ _ h => h) (z82 _ rfl (by rfl) g1 (by exact rfl) C H (fun W hW => hW) hC.hh hH2) hr1 ?_
    try simp only [Act.put, List.getElem_toArray, List.getElem_cons_zero, List.getElem_cons_succ, jqd, jqe, jqf]
    refine wpAnyH_take (i := 5) (v := .agg C) rfl (by kernel_rfl) (by kernel_rfl) (by kernel_rfl) (fun _ _ _ h => h) (z81 _ rfl (by rfl) g1 (by exact rfl) C (fun W hW => hW) hC.sz) hr1 ?_
    try simp only [Act.put, List.getElem_toArray, List.getElem_cons_zero, List.getElem_cons_succ, jqd, jqe, jqf]
    rw [HH.out]
    refine wpAnyH_ready (rs := [2, 8]) (by kernel_rfl) (by simp) ?_
    refine AllReadyH.cons rfl (fun K hK => ?_) (AllReadyH.cons rfl (fun K hK => ?_) AllReadyH.nil)
    ·go_simp
     go_wp2_with fail
     refine (c3 _).mono ?_
     rintro e wA ⟨rfl, hbA⟩
     replace hr1 : z89 wA g1 C := Row.below hr1 hbA (Row.lt hr1)
     replace hr2 : zwq wA g2 oz := Row.below hr2 hbA (Row.lt hr2)
     replace hbw := hbw.trans (hbA.mono hbw.size)
     clear hbA
     refine hK.out _ _ hr1 (fun _ => ?_)
     clear hK K
     try simp only [Act.put, List.getElem_toArray, List.getElem_cons_zero, List.getElem_cons_succ, jqd, jqe, jqf]
     refine wpAnyH_ready (rs := [6, 8]) (by kernel_rfl) (by simp) ?_
     refine AllReadyH.cons rfl (fun K hK => ?_) (AllReadyH.cons rfl (fun K hK => ?_) AllReadyH.nil)
     ·go_simp
      go_wp2_with fail
      refine (c4 _).mono ?_
      rintro e wA ⟨rfl, hbA⟩
      replace hr1 : z89 wA g1 C := Row.below hr1 hbA (Row.lt hr1)
      replace hr2 : zwq wA g2 oz := Row.below hr2 hbA (Row.lt hr2)
      replace hbw := hbw.trans (hbA.mono hbw.size)
      clear hbA
      refine hK.out _ _ hr1 (fun _ => ?_)
      clear hK K
      try simp only [Act.put, List.getElem_toArray, List.getElem_cons_zero, List.getElem_cons_succ, jqd, jqe, jqf]
      refine wpAnyH_take (i := 7) (v := .agg #[.string S, .int .i64 k, .string N, .int .u32 v, .int .u16 y0, .int .u16 y1, .int .u16 y2, .int .u16 y3, .int .u16 y4, .int .u16 y5, .int .u16 y6, .int .u16 y7, .int .i64 q]) rfl (by kernel_rfl) (by kernel_rfl) (by kernel_rfl) (fun _ _ _ h => h) (Or.inl ⟨by rfl, fun W hW => by go_simp; try (with_reducible rfl)⟩) hr1 ?_
      try simp only [Act.put, List.getElem_toArray, List.getElem_cons_zero, List.getElem_cons_succ, jqd, jqe, jqf]
      refine wpAnyH_ready (rs := [8]) (by kernel_rfl) (by simp) ?_
      refine AllReadyH.cons rfl (fun K hK => ?_) AllReadyH.nil
      refine zwx rfl rfl (fun W7 g4 hga hgb hr4 hG => ?_)
      have hle4 : w.heap.size <= g4 := by have := hbw.size; omega
      have hne14 : g1 ≠ g4 := by have := Row.lt hr1; omega
      have hne24 : g2 ≠ g4 := by have := Row.lt hr2; omega
      replace hr1 : z89 W7 g1 C := Row.grown0 hr1 hG
      replace hr2 : zwq W7 g2 oz := Row.grown0 hr2 hG
      replace hbw := zav hbw hG jH
      clear hG hga hgb
      refine hK.out _ _ hr1 (fun _ => ?_)
      clear hK K
      try simp only [Act.put, List.getElem_toArray, List.getElem_cons_zero, List.getElem_cons_succ, jqd, jqe, jqf]
      refine wpAnyH_ready (rs := [9]) (by kernel_rfl) (by simp) (AllReadyH.cons rfl (fun K hK => ?_) AllReadyH.nil)
      refine zwy rfl rfl _ _ rfl g4 (by exact rfl) O (by rw [HO.out]; exact rfl) oz hr4 hO.sz rfl hO.one (fun w8 hr8 hG8 => ?_)
      replace hr1 : z89 w8 g1 C := Row.grown hr1 hG8 hne14
      replace hr2 : zwq w8 g2 oz := Row.grown hr2 hG8 hne24
      replace hbw := zau hbw hG8 jH hle4
      refine hK.out _ _ hr1 (fun _ => ?_)
      clear hK K hG8
      try simp only [Act.put, List.getElem_toArray, List.getElem_cons_zero, List.getElem_cons_succ, jqd, jqe, jqf]
      refine wpAnyH_done (by kernel_rfl) ?_ _
      go_wp2
      go_meet
      exact ⟨g4, rfl, hr1, hr2, hr8, hle4, hne14, hne24, hbw⟩
     ·refine zwx rfl rfl (fun W7 g4 hga hgb hr4 hG => ?_)
      have hle4 : w.heap.size <= g4 := by have := hbw.size; omega
      have hne14 : g1 ≠ g4 := by have := Row.lt hr1; omega
      have hne24 : g2 ≠ g4 := by have := Row.lt hr2; omega
      replace hr1 : z89 W7 g1 C := Row.grown0 hr1 hG
      replace hr2 : zwq W7 g2 oz := Row.grown0 hr2 hG
      replace hbw := zav hbw hG jH
      clear hG hga hgb
      refine hK.out _ _ hr1 (fun _ => ?_)
      clear hK K
      try simp only [Act.put, List.getElem_toArray, List.getElem_cons_zero, List.getElem_cons_succ, jqd, jqe, jqf]
      refine wpAnyH_ready (rs := [6]) (by kernel_rfl) (by simp) ?_
      refine AllReadyH.cons rfl (fun K hK => ?_) AllReadyH.nil
      go_simp
      go_wp2_with fail
      refine (c4 _).mono ?_
      rintro e wA ⟨rfl, hbA⟩
      replace hr1 : z89 wA g1 C := Row.below hr1 hbA (Row.lt hr1)
      replace hr2 : zwq wA g2 oz := Row.below hr2 hbA (Row.lt hr2)
      replace hr4 : zwq wA g4 oz := Row.below hr4 hbA (Row.lt hr4)
      replace hbw := hbw.trans (hbA.mono hbw.size)
      clear hbA
      refine hK.out _ _ hr1 (fun _ => ?_)
      clear hK K
      try simp only [Act.put, List.getElem_toArray, List.getElem_cons_zero, List.getElem_cons_succ, jqd, jqe, jqf]
      refine wpAnyH_take (i := 7) (v := .agg #[.string S, .int .i64 k, .string N, .int .u32 v, .int .u16 y0, .int .u16 y1, .int .u16 y2, .int .u16 y3, .int .u16 y4, .int .u16 y5, .int .u16 y6, .int .u16 y7, .int .i64 q]) rfl (by kernel_rfl) (by kernel_rfl) (by kernel_rfl) (fun _ _ _ h => h) (Or.inl ⟨by rfl, fun W hW => by go_simp; try (with_reducible rfl)⟩) hr1 ?_
      try simp only [Act.put, List.getElem_toArray, List.getElem_cons_zero, List.getElem_cons_succ, jqd, jqe, jqf]
      refine wpAnyH_ready (rs := [9]) (by kernel_rfl) (by simp) (AllReadyH.cons rfl (fun K hK => ?_) AllReadyH.nil)
      refine zwy rfl rfl _ _ rfl g4 (by exact rfl) O (by rw [HO.out]; exact rfl) oz hr4 hO.sz rfl hO.one (fun w8 hr8 hG8 => ?_)
      replace hr1 : z89 w8 g1 C := Row.grown hr1 hG8 hne14
      replace hr2 : zwq w8 g2 oz := Row.grown hr2 hG8 hne24
      replace hbw := zau hbw hG8 jH hle4
      refine hK.out _ _ hr1 (fun _ => ?_)
      clear hK K hG8
      try simp only [Act.put, List.getElem_toArray, List.getElem_cons_zero, List.getElem_cons_succ, jqd, jqe, jqf]
      refine wpAnyH_done (by kernel_rfl) ?_ _
      go_wp2
      go_meet
      exact ⟨g4, rfl, hr1, hr2, hr8, hle4, hne14, hne24, hbw⟩
    ·refine zwx rfl rfl (fun W7 g4 hga hgb hr4 hG => ?_)
     have hle4 : w.heap.size <= g4 := by have := hbw.size; omega
     have hne14 : g1 ≠ g4 := by have := Row.lt hr1; omega
     have hne24 : g2 ≠ g4 := by have := Row.lt hr2; omega
     replace hr1 : z89 W7 g1 C := Row.grown0 hr1 hG
     replace hr2 : zwq W7 g2 oz := Row.grown0 hr2 hG
     replace hbw := zav hbw hG jH
     clear hG hga hgb
     refine hK.out _ _ hr1 (fun _ => ?_)
     clear hK K
     try simp only [Act.put, List.getElem_toArray, List.getElem_cons_zero, List.getElem_cons_succ, jqd, jqe, jqf]
     refine wpAnyH_ready (rs := [2]) (by kernel_rfl) (by simp) ?_
     refine AllReadyH.cons rfl (fun K hK => ?_) AllReadyH.nil
     go_simp
     go_wp2_with fail
     refine (c3 _).mono ?_
     rintro e wA ⟨rfl, hbA⟩
     replace hr1 : z89 wA g1 C := Row.below hr1 hbA (Row.lt hr1)
     replace hr2 : zwq wA g2 oz := Row.below hr2 hbA (Row.lt hr2)
     replace hr4 : zwq wA g4 oz := Row.below hr4 hbA (Row.lt hr4)
     replace hbw := hbw.trans (hbA.mono hbw.size)
     clear hbA
     refine hK.out _ _ hr1 (fun _ => ?_)
     clear hK K
     try simp only [Act.put, List.getElem_toArray, List.getElem_cons_zero, List.getElem_cons_succ, jqd, jqe, jqf]
     refine wpAnyH_ready (rs := [6]) (by kernel_rfl) (by simp) ?_
     refine AllReadyH.cons rfl (fun K hK => ?_) AllReadyH.nil
     go_simp
     go_wp2_with fail
     refine (c4 _).mono ?_
     rintro e wA ⟨rfl, hbA⟩
     replace hr1 : z89 wA g1 C := Row.below hr1 hbA (Row.lt hr1)
     replace hr2 : zwq wA g2 oz := Row.below hr2 hbA (Row.lt hr2)
     replace hr4 : zwq wA g4 oz := Row.below hr4 hbA (Row.lt hr4)
     replace hbw := hbw.trans (hbA.mono hbw.size)
     clear hbA
     refine hK.out _ _ hr1 (fun _ => ?_)
     clear hK K
     try simp only [Act.put, List.getElem_toArray, List.getElem_cons_zero, List.getElem_cons_succ, jqd, jqe, jqf]
     refine wpAnyH_take (i := 7) (v := .agg #[.string S, .int .i64 k, .string N, .int .u32 v, .int .u16 y0, .int .u16 y1, .int .u16 y2, .int .u16 y3, .int .u16 y4, .int .u16 y5, .int .u16 y6, .int .u16 y7, .int .i64 q]) rfl (by kernel_rfl) (by kernel_rfl) (by kernel_rfl) (fun _ _ _ h => h) (Or.inl ⟨by rfl, fun W hW => by go_simp; try (with_reducible rfl)⟩) hr1 ?_
     try simp only [Act.put, List.getElem_toArray, List.getElem_cons_zero, List.getElem_cons_succ, jqd, jqe, jqf]
     refine wpAnyH_ready (rs := [9]) (by kernel_rfl) (by simp) (AllReadyH.cons rfl (fun K hK => ?_) AllReadyH.nil)
     refine zwy rfl rfl _ _ rfl g4 (by exact rfl) O (by rw [HO.out]; exact rfl) oz hr4 hO.sz rfl hO.one (fun w8 hr8 hG8 => ?_)
     replace hr1 : z89 w8 g1 C := Row.grown hr1 hG8 hne14
     replace hr2 : zwq w8 g2 oz := Row.grown hr2 hG8 hne24
     replace hbw := zau hbw hG8 jH hle4
     refine hK.out _ _ hr1 (fun _ => ?_)
     clear hK K hG8
     try simp only [Act.put, List.getElem_toArray, List.getElem_cons_zero, List.getElem_cons_succ, jqd, jqe, jqf]
     refine wpAnyH_done (by kernel_rfl) ?_ _
     go_wp2
     go_meet
     exact ⟨g4, rfl, hr1, hr2, hr8, hle4, hne14, hne24, hbw⟩
   case rest =>
    obtain ⟨g4, rfl, hr1, hr2, hr4, hle4, hne14, hne24, hbw⟩ := hcut
    obtain ⟨e0, e1, e3, e13, e14⟩ := hC.cell hr1
    obtain ⟨f0, f2, f12⟩ := hO.cell hr4
    have fz := Row.frozen9 hr4 2
    go_wp2_with (first
     | (go_at_call 42; refine (c5 _).mono ?_; rintro e w9 ⟨rfl, hb9⟩
        clear e0 e1 e3 e13 e14 f0 f2 f12 fz
        replace hr4 : zwq w9 g4 O := Row.below hr4 hb9 (Row.lt hr4)
        replace hr2 : zwq w9 g2 oz := Row.below hr2 hb9 (Row.lt hr2)
        replace hbw := hbw.trans (hb9.mono hbw.size)
        clear hb9
        have fz := Row.frozen9 hr4 2
        obtain ⟨f0, f2, f12⟩ := hO.cell hr4)
     | (refine zws (by rfl) _ rfl g4 (by exact rfl) O (Row.set_same9 hr4 hO.c2) hO.sz ?_)
     | (refine zwu rfl rfl _ _ rfl g2 (by exact rfl) O (by exact rfl) oz (Row.set_other9 hr2 hne24) rfl hO.sz hO.one ?_
        intro w8 hr8 hG8
        have hb8 := zau (hbw.setCell (p := ⟨g4, 2, none⟩) hle4 _) hG8 jH hle2))
    exact zwv 2 3 rfl g2 rfl O hr8 hO.sz _ rfl rfl ⟨by rw [HE.out, HOe.out]; rfl, hb8⟩
end

section
open Go.RowKit Go.Shelf
set_option maxHeartbeats 16000000
theorem zvb {o : Ov} (h : o.port = z6r o.scheme) : (zv9 o).cells = uc (bs o.scheme) ⟨#[]⟩ o.host.kind (bs o.host.name) (o.host.v4 : Nat) o.host.v6 (-1) ⟨#[47]⟩ := by
 unfold zv9
 rw [if_pos h]
 rfl
theorem zvc {o : Ov} (h : o.port ≠ z6r o.scheme) : (zv9 o).cells = (uc (bs o.scheme) ⟨#[]⟩ o.host.kind (bs o.host.name) (o.host.v4 : Nat) o.host.v6 (-1) ⟨#[47]⟩).setIfInBounds 13 (.int .i64 o.port) := by
 unfold zv9
 rw [if_neg h]
 rfl
set_option maxRecDepth 20000 in
theorem zvd (o : Ov) (hwf : o.host.Wf) (w : World) :
 Calls Tryz.prog 47 #[.agg o.cells] w fun e w' => e = .returned (.agg (zv9 o).cells) /\ Below w.heap.size w w' := by
 have hO := zww o
 have hH2 : o.host.cells.size = 11 := rfl
 have c4 := fun W => z6j ⟨o.scheme, [], o.host, -1, [47]⟩ W
 have hD := z9g ⟨o.scheme, [], o.host, -1, [47]⟩
 rw [show (if (Uv.mk o.scheme [] o.host (-1) [47]).port = -1 then z6r (Uv.mk o.scheme [] o.host (-1) [47]).scheme else (Uv.mk o.scheme [] o.host (-1) [47]).port) = z6r o.scheme from if_pos rfl] at c4
 have hR1 := zvb (o := o)
 have hR2 := zvc (o := o)
 obtain ⟨D, hDe⟩ : ∃ D, D = (Uv.mk o.scheme [] o.host (-1) [47]).cells := ⟨_, rfl⟩
 have hDe2 : uc (bs o.scheme) ⟨#[]⟩ o.host.kind (bs o.host.name) (o.host.v4 : Nat) o.host.v6 (-1) ⟨#[47]⟩ = D := by rw [hDe]; rfl
 rw [hDe2] at hR1 hR2
 clear hDe2
 rw [<- hDe] at hD c4
 obtain ⟨sch, ⟨k, nm, v4, g⟩, p⟩ := o
 obtain ⟨x0, x1, x2, x3, x4, x5, x6, x7, rfl⟩ := zf5 g hwf.2.1
 have HH : Hid ((Hv.mk k nm v4 [x0, x1, x2, x3, x4, x5, x6, x7]).cells = #[.int .i64 k, .string (bs nm), .int .u32 (v4 : Nat), .int .u16 (x0 : Nat), .int .u16 (x1 : Nat), .int .u16 (x2 : Nat), .int .u16 (x3 : Nat), .int .u16 (x4 : Nat), .int .u16 (x5 : Nat), .int .u16 (x6 : Nat), .int .u16 (x7 : Nat)]) := jL rfl
 have HD : Hid (D = #[.string (bs sch), .string ⟨#[]⟩, .int .i64 k, .string (bs nm), .int .u32 (v4 : Nat), .int .u16 (x0 : Nat), .int .u16 (x1 : Nat), .int .u16 (x2 : Nat), .int .u16 (x3 : Nat), .int .u16 (x4 : Nat), .int .u16 (x5 : Nat), .int .u16 (x6 : Nat), .int .u16 (x7 : Nat), .int .i64 (-1), .string ⟨#[47]⟩]) := jL (by rw [hDe]; rfl)
 clear hDe
 simp only at c4 hO hH2 hD hR1 hR2
 generalize (zv9 ⟨sch, ⟨k, nm, v4, [x0, x1, x2, x3, x4, x5, x6, x7]⟩, p⟩).cells = E at *
 generalize (Ov.mk sch ⟨k, nm, v4, [x0, x1, x2, x3, x4, x5, x6, x7]⟩ p).cells = O at *
 generalize (Hv.mk k nm v4 [x0, x1, x2, x3, x4, x5, x6, x7]).cells = H at *
 generalize z6r sch = z at *
 generalize bs sch = S at *
 generalize bs nm = N at *
 generalize (v4 : Int) = v at *
 generalize (x0 : Int) = y0 at *
 generalize (x1 : Int) = y1 at *
 generalize (x2 : Int) = y2 at *
 generalize (x3 : Int) = y3 at *
 generalize (x4 : Int) = y4 at *
 generalize (x5 : Int) = y5 at *
 generalize (x6 : Int) = y6 at *
 generalize (x7 : Int) = y7 at *
 clear hwf
 by_cases hp : p = z
 ·have hq : (p == z) = true := by rw [hp]; simp
  have hq2 : (p != z) = false := by rw [bne, hq]; rfl
  have HE := jL (hR1 hp)
  clear hR1 hR2 hp
  go_enter Tryz.func47, Tryz.ntmps47
  go_upto_region 2 with (first
   | (refine zax _ rfl 1 rfl _ _ rfl _ O (by exact rfl) (by exact rfl) ?_
      intro W1 g1 hg1 hl1 hr1 hG1
      have hbw := zav (Below.refl w.heap.size w) hG1 jH
      obtain ⟨f0, f2, f12⟩ := hO.cell hr1)
   | (refine zay _ rfl 2 rfl _ rfl uz z5s ?_
      intro W2 g2 hg2 hl2 hr2 hG2
      have hne12 : g1 ≠ g2 := by have := Row.lt hr1; omega
      have hle2 : w.heap.size <= g2 := by have := hbw.size; omega
      replace hr1 : zwq W2 g1 O := Row.grown0 hr1 hG2
      replace hr2 : z89 W2 g2 uz := hr2
      replace hbw := zav hbw hG2 jH
      clear f0 f2 f12
      obtain ⟨f0, f2, f12⟩ := hO.cell hr1)
   | (refine zwt (by rfl) _ rfl g1 (by exact rfl) O hr1 H hO.hh hH2 ?_
      rw [HH.out])
   | (refine zay _ rfl 3 rfl _ rfl uz z5s ?_
      intro W3 g3 hg3 hl3 hr3 hG3
      have hne13 : g1 ≠ g3 := by have := Row.lt hr1; omega
      have hne23 : g2 ≠ g3 := by have := Row.lt hr2; omega
      have hle3 : w.heap.size <= g3 := by have := hbw.size; omega
      replace hr1 : zwq W3 g1 O := Row.grown0 hr1 hG3
      replace hr2 : z89 W3 g2 uz := Row.grown0 hr2 hG3
      replace hr3 : z89 W3 g3 uz := hr3
      replace hbw := zav hbw hG3 jH)
   | (refine z9d rfl rfl _ _ rfl g3 (by exact rfl) D (by rw [HD.out]; exact rfl) uz hr3 rfl hD.sz hD.one ?_
      intro wd0 hr3 hG8
      replace hr1 : zwq wd0 g1 O := Row.grown hr1 hG8 hne13
      replace hr2 : z89 wd0 g2 uz := Row.grown hr2 hG8 hne23
      replace hbw := zau hbw hG8 jH hle3))
  replace hr1 : zwq wd0.drew g1 O := hr1
  replace hr2 : z89 wd0.drew g2 uz := hr2
  replace hr3 : z89 wd0.drew g3 D := hr3
  replace hbw := hbw.drew
  refine wp_region_held_drew (S := fun W => zwq W g1 O /\ z89 W g3 D) (by kernel_rfl) ⟨hr1, hr3⟩ (fun _ => ?_)
  generalize wd0.drew = wd at *
  refine wpAnyH_take (i := 0) (v := .pointer (some ⟨g1, 12, none⟩)) rfl (by kernel_rfl) (by kernel_rfl) (by kernel_rfl) (fun _ _ _ h => h) (Or.inl ⟨by rfl, fun W hW => by go_simp; try (with_reducible rfl)⟩) ⟨hr1, hr3⟩ ?_
  try simp only [Act.put, List.getElem_toArray, List.getElem_cons_zero, jqd, jqe, jqf]
  refine wpAnyH_take (i := 1) (v := .int .i64 p) rfl (by kernel_rfl) (by kernel_rfl) (by kernel_rfl) (fun _ _ _ h => h) (Or.inl ⟨by rfl, fun W hW => by have h9 := (hO.cell hW.1).2.2; go_simp; try (with_reducible rfl)⟩) ⟨hr1, hr3⟩ ?_
  try simp only [Act.put, List.getElem_toArray, List.getElem_cons_zero, List.getElem_cons_succ, jqd, jqe, jqf]
  refine wpAnyH_take (i := 2) (v := .agg D) rfl (by kernel_rfl) (by kernel_rfl) (by kernel_rfl) (fun _ _ _ h => h) (z81 _ rfl (by rfl) g3 (by exact rfl) D (fun W hW => hW.2) hD.sz) ⟨hr1, hr3⟩ ?_
  try simp only [Act.put, List.getElem_toArray, List.getElem_cons_zero, List.getElem_cons_succ, jqd, jqe, jqf]
  refine wpAnyH_ready (rs := [3]) (by kernel_rfl) (by simp) (AllReadyH.cons rfl (fun K hK => ?_) AllReadyH.nil)
  go_simp
  go_wp2_with fail
  refine (c4 _).mono ?_
  rintro e wA ⟨rfl, hbA⟩
  replace hr1 : zwq wA g1 O := Row.below hr1 hbA (Row.lt hr1)
  replace hr2 : z89 wA g2 uz := Row.below hr2 hbA (Row.lt hr2)
  replace hr3 : z89 wA g3 D := Row.below hr3 hbA (Row.lt hr3)
  replace hbw := hbw.trans (hbA.mono hbw.size)
  clear hbA
  refine hK.out _ _ ⟨hr1, hr3⟩ (fun _ => ?_)
  clear hK K
  try simp only [Act.put, List.getElem_toArray, List.getElem_cons_zero, List.getElem_cons_succ, jqd, jqe, jqf]
  refine wpAnyH_ready (rs := [4]) (by kernel_rfl) (by simp) (AllReadyH.cons rfl (fun K hK => ?_) AllReadyH.nil)
  go_simp
  refine hK.out _ _ ⟨hr1, hr3⟩ (fun _ => ?_)
  clear hK K
  try simp only [Act.put, List.getElem_toArray, List.getElem_cons_zero, List.getElem_cons_succ, jqd, jqe, jqf]
  refine wpAnyH_done (by kernel_rfl) ?_ _
  go_wp2_with (first
   | (refine z9b (by rfl) _ rfl g3 (by exact rfl) D hr3 hD.sz ?_)
   | (refine z9d rfl rfl _ _ rfl g2 (by exact rfl) D (by exact rfl) uz hr2 rfl hD.sz hD.one ?_
      intro w8 hr8 hG8
      have hb8 := zau hbw hG8 jH hle2))
  exact z9f 2 rfl g2 rfl D hr8 hD.sz rfl ⟨by rw [HE.out], hb8⟩
 ·have hq : (p == z) = false := by rw [beq_eq_false_iff_ne]; exact hp
  have hq2 : (p != z) = true := by rw [bne, hq]; rfl
  have HE := jL (hR2 hp)
  clear hR1 hR2 hp
  go_enter Tryz.func47, Tryz.ntmps47
  go_upto_region 2 with (first
   | (refine zax _ rfl 1 rfl _ _ rfl _ O (by exact rfl) (by exact rfl) ?_
      intro W1 g1 hg1 hl1 hr1 hG1
      have hbw := zav (Below.refl w.heap.size w) hG1 jH
      obtain ⟨f0, f2, f12⟩ := hO.cell hr1)
   | (refine zay _ rfl 2 rfl _ rfl uz z5s ?_
      intro W2 g2 hg2 hl2 hr2 hG2
      have hne12 : g1 ≠ g2 := by have := Row.lt hr1; omega
      have hle2 : w.heap.size <= g2 := by have := hbw.size; omega
      replace hr1 : zwq W2 g1 O := Row.grown0 hr1 hG2
      replace hr2 : z89 W2 g2 uz := hr2
      replace hbw := zav hbw hG2 jH
      clear f0 f2 f12
      obtain ⟨f0, f2, f12⟩ := hO.cell hr1)
   | (refine zwt (by rfl) _ rfl g1 (by exact rfl) O hr1 H hO.hh hH2 ?_
      rw [HH.out])
   | (refine zay _ rfl 3 rfl _ rfl uz z5s ?_
      intro W3 g3 hg3 hl3 hr3 hG3
      have hne13 : g1 ≠ g3 := by have := Row.lt hr1; omega
      have hne23 : g2 ≠ g3 := by have := Row.lt hr2; omega
      have hle3 : w.heap.size <= g3 := by have := hbw.size; omega
      replace hr1 : zwq W3 g1 O := Row.grown0 hr1 hG3
      replace hr2 : z89 W3 g2 uz := Row.grown0 hr2 hG3
      replace hr3 : z89 W3 g3 uz := hr3
      replace hbw := zav hbw hG3 jH)
   | (refine z9d rfl rfl _ _ rfl g3 (by exact rfl) D (by rw [HD.out]; exact rfl) uz hr3 rfl hD.sz hD.one ?_
      intro wd0 hr3 hG8
      replace hr1 : zwq wd0 g1 O := Row.grown hr1 hG8 hne13
      replace hr2 : z89 wd0 g2 uz := Row.grown hr2 hG8 hne23
      replace hbw := zau hbw hG8 jH hle3))
  replace hr1 : zwq wd0.drew g1 O := hr1
  replace hr2 : z89 wd0.drew g2 uz := hr2
  replace hr3 : z89 wd0.drew g3 D := hr3
  replace hbw := hbw.drew
  refine wp_region_held_drew (S := fun W => zwq W g1 O /\ z89 W g3 D) (by kernel_rfl) ⟨hr1, hr3⟩ (fun _ => ?_)
  generalize wd0.drew = wd at *
  refine wpAnyH_take (i := 0) (v := .pointer (some ⟨g1, 12, none⟩)) rfl (by kernel_rfl) (by kernel_rfl) (by kernel_rfl) (fun _ _ _ h => h) (Or.inl ⟨by rfl, fun W hW => by go_simp; try (with_reducible rfl)⟩) ⟨hr1, hr3⟩ ?_
  try simp only [Act.put, List.getElem_toArray, List.getElem_cons_zero, jqd, jqe, jqf]
  refine wpAnyH_take (i := 1) (v := .int .i64 p) rfl (by kernel_rfl) (by kernel_rfl) (by kernel_rfl) (fun _ _ _ h => h) (Or.inl ⟨by rfl, fun W hW => by have h9 := (hO.cell hW.1).2.2; go_simp; try (with_reducible rfl)⟩) ⟨hr1, hr3⟩ ?_
  try simp only [Act.put, List.getElem_toArray, List.getElem_cons_zero, List.getElem_cons_succ, jqd, jqe, jqf]
  refine wpAnyH_take (i := 2) (v := .agg D) rfl (by kernel_rfl) (by kernel_rfl) (by kernel_rfl) (fun _ _ _ h => h) (z81 _ rfl (by rfl) g3 (by exact rfl) D (fun W hW => hW.2) hD.sz) ⟨hr1, hr3⟩ ?_
  try simp only [Act.put, List.getElem_toArray, List.getElem_cons_zero, List.getElem_cons_succ, jqd, jqe, jqf]
  refine wpAnyH_ready (rs := [3]) (by kernel_rfl) (by simp) (AllReadyH.cons rfl (fun K hK => ?_) AllReadyH.nil)
  go_simp
  go_wp2_with fail
  refine (c4 _).mono ?_
  rintro e wA ⟨rfl, hbA⟩
  replace hr1 : zwq wA g1 O := Row.below hr1 hbA (Row.lt hr1)
  replace hr2 : z89 wA g2 uz := Row.below hr2 hbA (Row.lt hr2)
  replace hr3 : z89 wA g3 D := Row.below hr3 hbA (Row.lt hr3)
  replace hbw := hbw.trans (hbA.mono hbw.size)
  clear hbA
  refine hK.out _ _ ⟨hr1, hr3⟩ (fun _ => ?_)
  clear hK K
  try simp only [Act.put, List.getElem_toArray, List.getElem_cons_zero, List.getElem_cons_succ, jqd, jqe, jqf]
  refine wpAnyH_ready (rs := [4]) (by kernel_rfl) (by simp) (AllReadyH.cons rfl (fun K hK => ?_) AllReadyH.nil)
  go_simp
  refine hK.out _ _ ⟨hr1, hr3⟩ (fun _ => ?_)
  clear hK K
  try simp only [Act.put, List.getElem_toArray, List.getElem_cons_zero, List.getElem_cons_succ, jqd, jqe, jqf]
  refine wpAnyH_done (by kernel_rfl) ?_ _
  clear f0 f2 f12
  obtain ⟨f0, f2, f12⟩ := hO.cell hr1
  obtain ⟨e0, e1, e3, e13, e14⟩ := hD.cell hr3
  have fz := Row.frozen9 hr3 13
  have z1 : (D.setIfInBounds 13 (.int .i64 p)).size = 15 := by rw [Array.size_setIfInBounds]; exact hD.sz
  have o1 : (D.setIfInBounds 13 (.int .i64 p)).all (·.oneCell') = true := z6k hD.one rfl
  go_wp2_with (first
   | (refine z9b (by rfl) _ rfl g3 (by exact rfl) (D.setIfInBounds 13 (.int .i64 p)) (Row.set9 hr3) z1 ?_)
   | (refine z9d rfl rfl _ _ rfl g2 (by exact rfl) (D.setIfInBounds 13 (.int .i64 p)) (by exact rfl) uz (Row.set_other9 hr2 hne23) rfl z1 o1 ?_
      intro w8 hr8 hG8
      have hb8 := zau (hbw.setCell (p := ⟨g3, 13, none⟩) hle3 _) hG8 jH hle2))
  exact z9f 2 rfl g2 rfl _ hr8 z1 rfl ⟨by rw [HE.out], hb8⟩
structure OSm (o : Ov) : Prop where
 wf : o.host.Wf
 hn : o.host.name.length <= 100000000
 s1 : o.scheme.length <= 100000000
 p0 : -9223372036854775808 <= o.port
 p1 : o.port <= 9223372036854775807
theorem zve {o : Ov} (h : OSm o) : USm (zv9 o) :=
 ⟨h.wf, h.hn, h.s1, (by show ([] : List UInt8).length <= _; simp), (by show ([47] : List UInt8).length <= _; simp), (by show _ <= (if o.port = z6r o.scheme then -1 else o.port); have := h.p0; split <;> omega), (by show (if o.port = z6r o.scheme then -1 else o.port) <= _; have := h.p1; split <;> omega)⟩
theorem zvf {u : Uv} (h : u.host.Wf) : (ofL u).2.host.Wf := by
 unfold ofL
 split
 ·exact h
 ·exact ziw
theorem zvg (l : List UInt8) : Lib.trimSuffix (l ++ [47]) [47] = l := by
 unfold Lib.trimSuffix
 rw [if_pos (by simp [Lib.hasSuffix])]
 simp
theorem zvh {o : Ov} (h12 : ((ofL (zv9 o)).1 && eqO (ofL (zv9 o)).2 o) = true) (hw : o.host.Wf) : zvy o = true := by
 cases h : zvy o with
 | true => rfl
 | false =>
   exfalso
   have hP := zwg o hw
   rw [if_pos h12] at hP
   unfold zvz at hP
   rw [if_neg (by rw [h]; decide)] at hP
   have hl := congrArg List.length hP
   have hv : z6e (zv9 o) = true /\ z6s (zv9 o).scheme = true := by
    rw [Bool.and_eq_true] at h12
    have h1 := h12.1
    unfold ofL at h1
    split at h1
    ·rename_i h9
     rw [Bool.and_eq_true] at h9
     exact h9
    ·cases h1
   have hg := zwc.1 hv.1
   have ht := z5x (z8l hg)
   rw [ht] at hl
   unfold z7c at hl
   rw [if_pos hv.2] at hl
   simp at hl
set_option maxRecDepth 20000 in
theorem zvi (hPar : zfj 84) (hF : zf9 51) (o : Ov) (h : OSm o) (w : World) (hw : Uw w) :
 Calls Tryz.prog 30 #[.agg o.cells] w fun e w' => e = .returned (.string (bs (zvz o))) /\ Below w.heap.size w w' := by
 have hu := zve h
 have c1 := fun W => zvd o h.wf W
 have c2 := fun W hW => zva hPar hF (zv9 o) hu W hW
 have c3 := fun W hW => z6i hPar hF (zv9 o) hu W hW
 unfold zu9 at c2
 have hNE := fun W => z80 (zw1 (ofL (zv9 o)).2 o (zvf h.wf) h.wf W)
 have hP := zwg o h.wf
 have hO := zww o
 have hC := z9g (zv9 o)
 have hB := zww (ofL (zv9 o)).2
 have HW := jL hw
 have hR : ((ofL (zv9 o)).1 && eqO (ofL (zv9 o)).2 o) = true -> (⟨(Lib.trimSuffix (if z6e (zv9 o) = true then bs (z5w (zv9 o)) else ⟨#[]⟩).data.toList (⟨#[47]⟩ : ByteArray).data.toList).toArray⟩ : ByteArray) = bs (zvz o) := by
  intro h12
  have hg := zvh h12 h.wf
  have hv : z6e (zv9 o) = true := by rw [zwc]; exact zwd h.wf hg
  rw [hv, if_pos rfl, zwe h.wf hg]
  show bs (Lib.trimSuffix (zvz o ++ [47]) [47]) = _
  rw [zvg]
 have hR2 : ((ofL (zv9 o)).1 && eqO (ofL (zv9 o)).2 o) = false -> (⟨#[]⟩ : ByteArray) = bs (zvz o) := by
  intro h12
  rw [hP, if_neg (by rw [h12]; decide)]
  rfl
 have zT : (if z6e (zv9 o) = true then bs (z5w (zv9 o)) else ⟨#[]⟩).size <= 999999999 := by
  split
  ·rw [zb5]; exact z6f hu
  ·decide
 have c4 := fun W => Any.strings_TrimSuffix Tryz.lays102 (if z6e (zv9 o) = true then bs (z5w (zv9 o)) else ⟨#[]⟩) ⟨#[47]⟩ W (by omega)
 clear zT hP hu
 generalize (⟨(Lib.trimSuffix (if z6e (zv9 o) = true then bs (z5w (zv9 o)) else ⟨#[]⟩).data.toList (⟨#[47]⟩ : ByteArray).data.toList).toArray⟩ : ByteArray) = X at *
 generalize (if z6e (zv9 o) = true then bs (z5w (zv9 o)) else ⟨#[]⟩) = T at *
 generalize (ofL (zv9 o)).1 = ok at *
 generalize eqO (ofL (zv9 o)).2 o = eq at *
 generalize (ofL (zv9 o)).2.cells = B at *
 generalize bs (zvz o) = F at *
 generalize (zv9 o).cells = C at *
 generalize o.cells = O at *
 have HR := jL hR
 have HR2 := jL hR2
 clear h hw hR hR2
 have hcs : (ok = false) \/ (ok = true /\ eq = false) \/ (ok = true /\ eq = true) := by cases ok <;> cases eq <;> simp
 rcases hcs with rfl | ⟨rfl, rfl⟩ | ⟨rfl, rfl⟩
 all_goals
  try simp only [Bool.not_true, Bool.not_false] at hNE
  go_enter Tryz.func30, Tryz.ntmps30
  go_wp2_with (first
   | (refine zax _ rfl 1 rfl _ _ rfl _ O (by exact rfl) (by exact rfl) ?_
      intro W1 g1 hg1 hl1 hr1 hG1
      have hbw := zav (Below.refl w.heap.size w) hG1 jH)
   | (refine zws (by rfl) _ rfl g1 (by exact rfl) O hr1 hO.sz ?_)
   | (go_at_call 47; refine (c1 _).mono ?_; rintro e w5 ⟨rfl, hb5⟩
      replace hr1 : zwq w5 g1 O := Row.below hr1 hb5 (Row.lt hr1)
      replace hbw := hbw.trans (hb5.mono hbw.size)
      clear hb5)
   | (refine zay _ rfl 3 rfl _ rfl uz z5s ?_
      intro W3 g3 hg3 hl3 hr3 hG3
      have hne13 : g1 ≠ g3 := by have := Row.lt hr1; omega
      have hle3 : w.heap.size <= g3 := by have := hbw.size; omega
      replace hr1 : zwq W3 g1 O := Row.grown0 hr1 hG3
      replace hr3 : z89 W3 g3 uz := hr3
      replace hbw := zav hbw hG3 jH)
   | (refine z9d rfl rfl _ _ rfl g3 (by exact rfl) C (by exact rfl) uz hr3 rfl hC.sz hC.one ?_
      intro w6 hs3 hG8
      replace hr1 : zwq w6 g1 O := Row.grown hr1 hG8 hne13
      replace hbw := zau hbw hG8 jH hle3)
   | (refine z9b (by rfl) _ rfl g3 (by exact rfl) C hs3 hC.sz ?_)
   | (go_at_call 23; refine (c2 _ (z52 HW.out hbw)).mono ?_; rintro e w7 ⟨rfl, hb5⟩
      replace hr1 : zwq w7 g1 O := Row.below hr1 hb5 (Row.lt hr1)
      replace hs3 : z89 w7 g3 C := Row.below hs3 hb5 (Row.lt hs3)
      replace hbw := hbw.trans (hb5.mono hbw.size)
      clear hb5)
   | (refine zay _ rfl 4 rfl _ rfl oz zwn ?_
      intro W4 g4 hg4 hl4 hr4 hG4
      have hne14 : g1 ≠ g4 := by have := Row.lt hr1; omega
      have hne34 : g3 ≠ g4 := by have := Row.lt hs3; omega
      have hle4 : w.heap.size <= g4 := by have := hbw.size; omega
      replace hr1 : zwq W4 g1 O := Row.grown0 hr1 hG4
      replace hs3 : z89 W4 g3 C := Row.grown0 hs3 hG4
      replace hr4 : zwq W4 g4 oz := hr4
      replace hbw := zav hbw hG4 jH)
   | (refine zwu rfl rfl _ _ rfl g4 (by exact rfl) B (by exact rfl) oz hr4 rfl hB.sz hB.one ?_
      intro w8 hs4 hG9
      replace hr1 : zwq w8 g1 O := Row.grown hr1 hG9 hne14
      replace hs3 : z89 w8 g3 C := Row.grown hs3 hG9 hne34
      replace hbw := zau hbw hG9 jH hle4)
   | (refine zws (by rfl) _ rfl g4 (by exact rfl) B hs4 hB.sz ?_)
   | (go_at_call 10; refine (c3 _ (z52 HW.out hbw)).mono ?_; rintro e w9 ⟨rfl, hb5⟩
      replace hbw := hbw.trans (hb5.mono hbw.size)
      clear hb5)
   | (go_at_call 48; refine (c4 _).mono ?_; rintro e w5 ⟨rfl, rfl⟩))
  go_ret
  first | exact ⟨by rw [HR.out rfl]; rfl, hbw⟩ | exact ⟨by rw [<- HR2.out rfl]; rfl, hbw⟩
end

end Go.Proofs.YtekaljeicfjkjaaGreatDoor
