/-
rootOf and Format of package origin (written by tools/gen-OrG.py).
The reference's Parse of package url.
The fixed examples of the statements of layer 16 (awake) hold.
Of and Format of the reference of layer 16 (written by tools/gen-OrR.py).
Contract of the helper Short of the statements (package hstsstorekeep).
The helper SmallURL of the statements.
-/
import Derived.Test.YtekaljeicfjkjaaGreatDoorV38
import Derived.Test.YtekaljeicfjkjaaGreatDoorV37
import Derived.Test.YtekaljeicfjkjaaGreatDoorV26
import Derived.Test.YtekaljeicfjkjaaGreatDoorV07
import Derived.Test.YtekaljeicfjkjaaGreatDoorRows
import Derived.Test.YtekaljeicfjkjaaGreatDoorV00
import Derived.BigQuiet
import Derived.Deep.QuietTactic
import Derived.WalkSmall
namespace Go.Proofs.YtekaljeicfjkjaaGreatDoor
section
open Go.RowKit Go.Shelf
set_option maxHeartbeats 16000000
theorem zvf {o : Ov} (h : o.port = z6u o.scheme) : (zwe o).cells = uc (bs o.scheme) ⟨#[]⟩ o.host.kind (bs o.host.name) (o.host.v4 : Nat) o.host.v6 (-1) ⟨#[47]⟩ := by
 unfold zwe
 rw [if_pos h]
 rfl
theorem zvg {o : Ov} (h : o.port ≠ z6u o.scheme) : (zwe o).cells = (uc (bs o.scheme) ⟨#[]⟩ o.host.kind (bs o.host.name) (o.host.v4 : Nat) o.host.v6 (-1) ⟨#[47]⟩).setIfInBounds 13 (.int .i64 o.port) := by
 unfold zwe
 rw [if_neg h]
 rfl
set_option maxRecDepth 20000 in
theorem zvh (o : Ov) (hwf : o.host.Wf) (w : World) :
 Calls Tryz.prog 47 #[.agg o.cells] w fun e w' => e = .returned (.agg (zwe o).cells) /\ Below w.heap.size w w' := by
 have hO := zw0 o
 have hH2 : o.host.cells.size = 11 := rfl
 have c4 := fun W => z6m ⟨o.scheme, [], o.host, -1, [47]⟩ W
 have hD := z9t ⟨o.scheme, [], o.host, -1, [47]⟩
 rw [show (if (Uv.mk o.scheme [] o.host (-1) [47]).port = -1 then z6u (Uv.mk o.scheme [] o.host (-1) [47]).scheme else (Uv.mk o.scheme [] o.host (-1) [47]).port) = z6u o.scheme from if_pos rfl] at c4
 have hR1 := zvf (o := o)
 have hR2 := zvg (o := o)
 obtain ⟨D, hDe⟩ : ∃ D, D = (Uv.mk o.scheme [] o.host (-1) [47]).cells := ⟨_, rfl⟩
 have hDe2 : uc (bs o.scheme) ⟨#[]⟩ o.host.kind (bs o.host.name) (o.host.v4 : Nat) o.host.v6 (-1) ⟨#[47]⟩ = D := by rw [hDe]; rfl
 rw [hDe2] at hR1 hR2
 clear hDe2
 rw [<- hDe] at hD c4
 obtain ⟨sch, ⟨k, nm, v4, g⟩, p⟩ := o
 obtain ⟨x0, x1, x2, x3, x4, x5, x6, x7, rfl⟩ := zf5 g hwf.2.1
 have HH : Hid ((Hv.mk k nm v4 [x0, x1, x2, x3, x4, x5, x6, x7]).cells = #[.int .i64 k, .string (bs nm), .int .u32 (v4 : Nat), .int .u16 (x0 : Nat), .int .u16 (x1 : Nat), .int .u16 (x2 : Nat), .int .u16 (x3 : Nat), .int .u16 (x4 : Nat), .int .u16 (x5 : Nat), .int .u16 (x6 : Nat), .int .u16 (x7 : Nat)]) := jL rfl
 have HD : Hid (D = #[.string (bs sch), .string ⟨#[]⟩, .int .i64 k, .string (bs nm), .int .u32 (v4 : Nat), .int .u16 (x0 : Nat), .int .u16 (x1 : Nat), .int .u16 (x2 : Nat), .int .u16 (x3 : Nat), .int .u16 (x4 : Nat), .int .u16 (x5 : Nat), .int .u16 (x6 : Nat), .int .u16 (x7 : Nat), .int .i64 (-1), .string ⟨#[47]⟩]) := jL (by rw [hDe]; rfl)
 clear hDe
 simp only at c4 hO hH2 hD hR1 hR2
 generalize (zwe ⟨sch, ⟨k, nm, v4, [x0, x1, x2, x3, x4, x5, x6, x7]⟩, p⟩).cells = E at *
 generalize (Ov.mk sch ⟨k, nm, v4, [x0, x1, x2, x3, x4, x5, x6, x7]⟩ p).cells = O at *
 generalize (Hv.mk k nm v4 [x0, x1, x2, x3, x4, x5, x6, x7]).cells = H at *
 generalize z6u sch = z at *
 generalize bs sch = S at *
 generalize bs nm = N at *
 generalize (v4 : Int) = v at *
 generalize (x0 : Int) = y0 at *
 generalize (x1 : Int) = y1 at *
 generalize (x2 : Int) = y2 at *
 generalize (x3 : Int) = y3 at *
 generalize (x4 : Int) = y4 at *
 generalize (x5 : Int) = y5 at *
 generalize (x6 : Int) = y6 at *
 generalize (x7 : Int) = y7 at *
 clear hwf
 by_cases hp : p = z
 ·have hq : (p == z) = true := by rw [hp]; simp
  have hq2 : (p != z) = false := by rw [bne, hq]; rfl
  have HE := jL (hR1 hp)
  clear hR1 hR2 hp
  go_enter Tryz.func47, Tryz.ntmps47
  go_upto_region 2 with (first
   | (refine zax _ rfl 1 rfl _ _ rfl _ O (by exact rfl) (by exact rfl) ?_
      intro W1 g1 hg1 hl1 hr1 hG1
      have hbw := zav (Below.refl w.heap.size w) hG1 jH
      obtain ⟨f0, f2, f12⟩ := hO.cell hr1)
   | (refine zay _ rfl 2 rfl _ rfl uz z5v ?_
      intro W2 g2 hg2 hl2 hr2 hG2
      have hne12 : g1 ≠ g2 := by have := Row.lt hr1; omega
      have hle2 : w.heap.size <= g2 := by have := hbw.size; omega
      replace hr1 : zwu W2 g1 O := Row.grown0 hr1 hG2
      replace hr2 : z9m W2 g2 uz := hr2
      replace hbw := zav hbw hG2 jH
      clear f0 f2 f12
      obtain ⟨f0, f2, f12⟩ := hO.cell hr1)
   | (refine zwx (by rfl) _ rfl g1 (by exact rfl) O hr1 H hO.hh hH2 ?_
      rw [HH.out])
   | (refine zay _ rfl 3 rfl _ rfl uz z5v ?_
      intro W3 g3 hg3 hl3 hr3 hG3
      have hne13 : g1 ≠ g3 := by have := Row.lt hr1; omega
      have hne23 : g2 ≠ g3 := by have := Row.lt hr2; omega
      have hle3 : w.heap.size <= g3 := by have := hbw.size; omega
      replace hr1 : zwu W3 g1 O := Row.grown0 hr1 hG3
      replace hr2 : z9m W3 g2 uz := Row.grown0 hr2 hG3
      replace hr3 : z9m W3 g3 uz := hr3
      replace hbw := zav hbw hG3 jH)
   | (refine z9q rfl rfl _ _ rfl g3 (by exact rfl) D (by rw [HD.out]; exact rfl) uz hr3 rfl hD.sz hD.one ?_
      intro wd0 hr3 hG8
      replace hr1 : zwu wd0 g1 O := Row.grown hr1 hG8 hne13
      replace hr2 : z9m wd0 g2 uz := Row.grown hr2 hG8 hne23
      replace hbw := zau hbw hG8 jH hle3))
  replace hr1 : zwu wd0.drew g1 O := hr1
  replace hr2 : z9m wd0.drew g2 uz := hr2
  replace hr3 : z9m wd0.drew g3 D := hr3
  replace hbw := hbw.drew
  refine wp_region_held_drew (S := fun W => zwu W g1 O /\ z9m W g3 D) (by kernel_rfl) ⟨hr1, hr3⟩ (fun _ => ?_)
  generalize wd0.drew = wd at *
  refine wpAnyH_take (i := 0) (v := .pointer (some ⟨g1, 12, none⟩)) rfl (by kernel_rfl) (by kernel_rfl) (by kernel_rfl) (fun _ _ _ h => h) (Or.inl ⟨by rfl, fun W hW => by go_simp; try (with_reducible rfl)⟩) ⟨hr1, hr3⟩ ?_
  try simp only [Act.put, List.getElem_toArray, List.getElem_cons_zero, jqd, jqe, jqf]
  refine wpAnyH_take (i := 1) (v := .int .i64 p) rfl (by kernel_rfl) (by kernel_rfl) (by kernel_rfl) (fun _ _ _ h => h) (Or.inl ⟨by rfl, fun W hW => by have h9 := (hO.cell hW.1).2.2; go_simp; try (with_reducible rfl)⟩) ⟨hr1, hr3⟩ ?_
  try simp only [Act.put, List.getElem_toArray, List.getElem_cons_zero, List.getElem_cons_succ, jqd, jqe, jqf]
  refine wpAnyH_take (i := 2) (v := .agg D) rfl (by kernel_rfl) (by kernel_rfl) (by kernel_rfl) (fun _ _ _ h => h) (z9a _ rfl (by rfl) g3 (by exact rfl) D (fun W hW => hW.2) hD.sz) ⟨hr1, hr3⟩ ?_
  try simp only [Act.put, List.getElem_toArray, List.getElem_cons_zero, List.getElem_cons_succ, jqd, jqe, jqf]
  refine wpAnyH_ready (rs := [3]) (by kernel_rfl) (by simp) (AllReadyH.cons rfl (fun K hK => ?_) AllReadyH.nil)
  go_simp
  go_wp2_with fail
  refine (c4 _).mono ?_
  rintro e wA ⟨rfl, hbA⟩
  replace hr1 : zwu wA g1 O := Row.below hr1 hbA (Row.lt hr1)
  replace hr2 : z9m wA g2 uz := Row.below hr2 hbA (Row.lt hr2)
  replace hr3 : z9m wA g3 D := Row.below hr3 hbA (Row.lt hr3)
  replace hbw := hbw.trans (hbA.mono hbw.size)
  clear hbA
  refine hK.out _ _ ⟨hr1, hr3⟩ (fun _ => ?_)
  clear hK K
  try simp only [Act.put, List.getElem_toArray, List.getElem_cons_zero, List.getElem_cons_succ, jqd, jqe, jqf]
  refine wpAnyH_ready (rs := [4]) (by kernel_rfl) (by simp) (AllReadyH.cons rfl (fun K hK => ?_) AllReadyH.nil)
  go_simp
  refine hK.out _ _ ⟨hr1, hr3⟩ (fun _ => ?_)
  clear hK K
  try simp only [Act.put, List.getElem_toArray, List.getElem_cons_zero, List.getElem_cons_succ, jqd, jqe, jqf]
  refine wpAnyH_done (by kernel_rfl) ?_ _
  go_wp2_with (first
   | (refine z9o (by rfl) _ rfl g3 (by exact rfl) D hr3 hD.sz ?_)
   | (refine z9q rfl rfl _ _ rfl g2 (by exact rfl) D (by exact rfl) uz hr2 rfl hD.sz hD.one ?_
      intro w8 hr8 hG8
      have hb8 := zau hbw hG8 jH hle2))
  exact z9s 2 rfl g2 rfl D hr8 hD.sz rfl ⟨by rw [HE.out], hb8⟩
 ·have hq : (p == z) = false := by rw [beq_eq_false_iff_ne]; exact hp
  have hq2 : (p != z) = true := by rw [bne, hq]; rfl
  have HE := jL (hR2 hp)
  clear hR1 hR2 hp
  go_enter Tryz.func47, Tryz.ntmps47
  go_upto_region 2 with (first
   | (refine zax _ rfl 1 rfl _ _ rfl _ O (by exact rfl) (by exact rfl) ?_
      intro W1 g1 hg1 hl1 hr1 hG1
      have hbw := zav (Below.refl w.heap.size w) hG1 jH
      obtain ⟨f0, f2, f12⟩ := hO.cell hr1)
   | (refine zay _ rfl 2 rfl _ rfl uz z5v ?_
      intro W2 g2 hg2 hl2 hr2 hG2
      have hne12 : g1 ≠ g2 := by have := Row.lt hr1; omega
      have hle2 : w.heap.size <= g2 := by have := hbw.size; omega
      replace hr1 : zwu W2 g1 O := Row.grown0 hr1 hG2
      replace hr2 : z9m W2 g2 uz := hr2
      replace hbw := zav hbw hG2 jH
      clear f0 f2 f12
      obtain ⟨f0, f2, f12⟩ := hO.cell hr1)
   | (refine zwx (by rfl) _ rfl g1 (by exact rfl) O hr1 H hO.hh hH2 ?_
      rw [HH.out])
   | (refine zay _ rfl 3 rfl _ rfl uz z5v ?_
      intro W3 g3 hg3 hl3 hr3 hG3
      have hne13 : g1 ≠ g3 := by have := Row.lt hr1; omega
      have hne23 : g2 ≠ g3 := by have := Row.lt hr2; omega
      have hle3 : w.heap.size <= g3 := by have := hbw.size; omega
      replace hr1 : zwu W3 g1 O := Row.grown0 hr1 hG3
      replace hr2 : z9m W3 g2 uz := Row.grown0 hr2 hG3
      replace hr3 : z9m W3 g3 uz := hr3
      replace hbw := zav hbw hG3 jH)
   | (refine z9q rfl rfl _ _ rfl g3 (by exact rfl) D (by rw [HD.out]; exact rfl) uz hr3 rfl hD.sz hD.one ?_
      intro wd0 hr3 hG8
      replace hr1 : zwu wd0 g1 O := Row.grown hr1 hG8 hne13
      replace hr2 : z9m wd0 g2 uz := Row.grown hr2 hG8 hne23
      replace hbw := zau hbw hG8 jH hle3))
  replace hr1 : zwu wd0.drew g1 O := hr1
  replace hr2 : z9m wd0.drew g2 uz := hr2
  replace hr3 : z9m wd0.drew g3 D := hr3
  replace hbw := hbw.drew
  refine wp_region_held_drew (S := fun W => zwu W g1 O /\ z9m W g3 D) (by kernel_rfl) ⟨hr1, hr3⟩ (fun _ => ?_)
  generalize wd0.drew = wd at *
  refine wpAnyH_take (i := 0) (v := .pointer (some ⟨g1, 12, none⟩)) rfl (by kernel_rfl) (by kernel_rfl) (by kernel_rfl) (fun _ _ _ h => h) (Or.inl ⟨by rfl, fun W hW => by go_simp; try (with_reducible rfl)⟩) ⟨hr1, hr3⟩ ?_
  try simp only [Act.put, List.getElem_toArray, List.getElem_cons_zero, jqd, jqe, jqf]
  refine wpAnyH_take (i := 1) (v := .int .i64 p) rfl (by kernel_rfl) (by kernel_rfl) (by kernel_rfl) (fun _ _ _ h => h) (Or.inl ⟨by rfl, fun W hW => by have h9 := (hO.cell hW.1).2.2; go_simp; try (with_reducible rfl)⟩) ⟨hr1, hr3⟩ ?_
  try simp only [Act.put, List.getElem_toArray, List.getElem_cons_zero, List.getElem_cons_succ, jqd, jqe, jqf]
  refine wpAnyH_take (i := 2) (v := .agg D) rfl (by kernel_rfl) (by kernel_rfl) (by kernel_rfl) (fun _ _ _ h => h) (z9a _ rfl (by rfl) g3 (by exact rfl) D (fun W hW => hW.2) hD.sz) ⟨hr1, hr3⟩ ?_
  try simp only [Act.put, List.getElem_toArray, List.getElem_cons_zero, List.getElem_cons_succ, jqd, jqe, jqf]
  refine wpAnyH_ready (rs := [3]) (by kernel_rfl) (by simp) (AllReadyH.cons rfl (fun K hK => ?_) AllReadyH.nil)
  go_simp
  go_wp2_with fail
  refine (c4 _).mono ?_
  rintro e wA ⟨rfl, hbA⟩
  replace hr1 : zwu wA g1 O := Row.below hr1 hbA (Row.lt hr1)
  replace hr2 : z9m wA g2 uz := Row.below hr2 hbA (Row.lt hr2)
  replace hr3 : z9m wA g3 D := Row.below hr3 hbA (Row.lt hr3)
  replace hbw := hbw.trans (hbA.mono hbw.size)
  clear hbA
  refine hK.out _ _ ⟨hr1, hr3⟩ (fun _ => ?_)
  clear hK K
  try simp only [Act.put, List.getElem_toArray, List.getElem_cons_zero, List.getElem_cons_succ, jqd, jqe, jqf]
  refine wpAnyH_ready (rs := [4]) (by kernel_rfl) (by simp) (AllReadyH.cons rfl (fun K hK => ?_) AllReadyH.nil)
  go_simp
  refine hK.out _ _ ⟨hr1, hr3⟩ (fun _ => ?_)
  clear hK K
  try simp only [Act.put, List.getElem_toArray, List.getElem_cons_zero, List.getElem_cons_succ, jqd, jqe, jqf]
  refine wpAnyH_done (by kernel_rfl) ?_ _
  clear f0 f2 f12
  obtain ⟨f0, f2, f12⟩ := hO.cell hr1
  obtain ⟨e0, e1, e3, e13, e14⟩ := hD.cell hr3
  have fz := Row.frozen9 hr3 13
  have z1 : (D.setIfInBounds 13 (.int .i64 p)).size = 15 := by rw [Array.size_setIfInBounds]; exact hD.sz
  have o1 : (D.setIfInBounds 13 (.int .i64 p)).all (·.oneCell') = true := z6n hD.one rfl
  go_wp2_with (first
   | (refine z9o (by rfl) _ rfl g3 (by exact rfl) (D.setIfInBounds 13 (.int .i64 p)) (Row.set9 hr3) z1 ?_)
   | (refine z9q rfl rfl _ _ rfl g2 (by exact rfl) (D.setIfInBounds 13 (.int .i64 p)) (by exact rfl) uz (Row.set_other9 hr2 hne23) rfl z1 o1 ?_
      intro w8 hr8 hG8
      have hb8 := zau (hbw.setCell (p := ⟨g3, 13, none⟩) hle3 _) hG8 jH hle2))
  exact z9s 2 rfl g2 rfl _ hr8 z1 rfl ⟨by rw [HE.out], hb8⟩
structure OSm (o : Ov) : Prop where
 wf : o.host.Wf
 hn : o.host.name.length <= 100000000
 s1 : o.scheme.length <= 100000000
 p0 : -9223372036854775808 <= o.port
 p1 : o.port <= 9223372036854775807
theorem zvi {o : Ov} (h : OSm o) : USm (zwe o) :=
 ⟨h.wf, h.hn, h.s1, (by show ([] : List UInt8).length <= _; simp), (by show ([47] : List UInt8).length <= _; simp), (by show _ <= (if o.port = z6u o.scheme then -1 else o.port); have := h.p0; split <;> omega), (by show (if o.port = z6u o.scheme then -1 else o.port) <= _; have := h.p1; split <;> omega)⟩
theorem zvj {u : Uv} (h : u.host.Wf) : (ofL u).2.host.Wf := by
 unfold ofL
 split
 ·exact h
 ·exact ziw
theorem zvk (l : List UInt8) : Lib.trimSuffix (l ++ [47]) [47] = l := by
 unfold Lib.trimSuffix
 rw [if_pos (by simp [Lib.hasSuffix])]
 simp
theorem zvl {o : Ov} (h12 : ((ofL (zwe o)).1 && eqO (ofL (zwe o)).2 o) = true) (hw : o.host.Wf) : zv3 o = true := by
 cases h : zv3 o with
 | true => rfl
 | false =>
   exfalso
   have hP := zwl o hw
   rw [if_pos h12] at hP
   unfold zv4 at hP
   rw [if_neg (by rw [h]; decide)] at hP
   have hl := congrArg List.length hP
   have hv : z6h (zwe o) = true /\ z6v (zwe o).scheme = true := by
    rw [Bool.and_eq_true] at h12
    have h1 := h12.1
    unfold ofL at h1
    split at h1
    ·rename_i h9
     rw [Bool.and_eq_true] at h9
     exact h9
    ·cases h1
   have hg := zwh.1 hv.1
   have ht := z50 (z8o hg)
   rw [ht] at hl
   unfold z7f at hl
   rw [if_pos hv.2] at hl
   simp at hl
set_option maxRecDepth 20000 in
theorem zvm (hPar : zfj 84) (hF : zf9 51) (o : Ov) (h : OSm o) (w : World) (hw : Uw w) :
 Calls Tryz.prog 30 #[.agg o.cells] w fun e w' => e = .returned (.string (bs (zv4 o))) /\ Below w.heap.size w w' := by
 have hu := zvi h
 have c1 := fun W => zvh o h.wf W
 have c2 := fun W hW => zve hPar hF (zwe o) hu W hW
 have c3 := fun W hW => z6l hPar hF (zwe o) hu W hW
 unfold zvd at c2
 have hNE := fun W => z89 (zw4 (ofL (zwe o)).2 o (zvj h.wf) h.wf W)
 have hP := zwl o h.wf
 have hO := zw0 o
 have hC := z9t (zwe o)
 have hB := zw0 (ofL (zwe o)).2
 have HW := jL hw
 have hR : ((ofL (zwe o)).1 && eqO (ofL (zwe o)).2 o) = true -> (⟨(Lib.trimSuffix (if z6h (zwe o) = true then bs (z5z (zwe o)) else ⟨#[]⟩).data.toList (⟨#[47]⟩ : ByteArray).data.toList).toArray⟩ : ByteArray) = bs (zv4 o) := by
  intro h12
  have hg := zvl h12 h.wf
  have hv : z6h (zwe o) = true := by rw [zwh]; exact zwi h.wf hg
  rw [hv, if_pos rfl, zwj h.wf hg]
  show bs (Lib.trimSuffix (zv4 o ++ [47]) [47]) = _
  rw [zvk]
 have hR2 : ((ofL (zwe o)).1 && eqO (ofL (zwe o)).2 o) = false -> (⟨#[]⟩ : ByteArray) = bs (zv4 o) := by
  intro h12
  rw [hP, if_neg (by rw [h12]; decide)]
  rfl
 have zT : (if z6h (zwe o) = true then bs (z5z (zwe o)) else ⟨#[]⟩).size <= 999999999 := by
  split
  ·rw [zb5]; exact z6i hu
  ·decide
 have c4 := fun W => Any.strings_TrimSuffix Tryz.lays102 (if z6h (zwe o) = true then bs (z5z (zwe o)) else ⟨#[]⟩) ⟨#[47]⟩ W (by omega)
 clear zT hP hu
 generalize (⟨(Lib.trimSuffix (if z6h (zwe o) = true then bs (z5z (zwe o)) else ⟨#[]⟩).data.toList (⟨#[47]⟩ : ByteArray).data.toList).toArray⟩ : ByteArray) = X at *
 generalize (if z6h (zwe o) = true then bs (z5z (zwe o)) else ⟨#[]⟩) = T at *
 generalize (ofL (zwe o)).1 = ok at *
 generalize eqO (ofL (zwe o)).2 o = eq at *
 generalize (ofL (zwe o)).2.cells = B at *
 generalize bs (zv4 o) = F at *
 generalize (zwe o).cells = C at *
 generalize o.cells = O at *
 have HR := jL hR
 have HR2 := jL hR2
 clear h hw hR hR2
 have hcs : (ok = false) \/ (ok = true /\ eq = false) \/ (ok = true /\ eq = true) := by cases ok <;> cases eq <;> simp
 rcases hcs with rfl | ⟨rfl, rfl⟩ | ⟨rfl, rfl⟩
 all_goals
  try simp only [Bool.not_true, Bool.not_false] at hNE
  go_enter Tryz.func30, Tryz.ntmps30
  go_wp2_with (first
   | (refine zax _ rfl 1 rfl _ _ rfl _ O (by exact rfl) (by exact rfl) ?_
      intro W1 g1 hg1 hl1 hr1 hG1
      have hbw := zav (Below.refl w.heap.size w) hG1 jH)
   | (refine zww (by rfl) _ rfl g1 (by exact rfl) O hr1 hO.sz ?_)
   | (go_at_call 47; refine (c1 _).mono ?_; rintro e w5 ⟨rfl, hb5⟩
      replace hr1 : zwu w5 g1 O := Row.below hr1 hb5 (Row.lt hr1)
      replace hbw := hbw.trans (hb5.mono hbw.size)
      clear hb5)
   | (refine zay _ rfl 3 rfl _ rfl uz z5v ?_
      intro W3 g3 hg3 hl3 hr3 hG3
      have hne13 : g1 ≠ g3 := by have := Row.lt hr1; omega
      have hle3 : w.heap.size <= g3 := by have := hbw.size; omega
      replace hr1 : zwu W3 g1 O := Row.grown0 hr1 hG3
      replace hr3 : z9m W3 g3 uz := hr3
      replace hbw := zav hbw hG3 jH)
   | (refine z9q rfl rfl _ _ rfl g3 (by exact rfl) C (by exact rfl) uz hr3 rfl hC.sz hC.one ?_
      intro w6 hs3 hG8
      replace hr1 : zwu w6 g1 O := Row.grown hr1 hG8 hne13
      replace hbw := zau hbw hG8 jH hle3)
   | (refine z9o (by rfl) _ rfl g3 (by exact rfl) C hs3 hC.sz ?_)
   | (go_at_call 23; refine (c2 _ (z55 HW.out hbw)).mono ?_; rintro e w7 ⟨rfl, hb5⟩
      replace hr1 : zwu w7 g1 O := Row.below hr1 hb5 (Row.lt hr1)
      replace hs3 : z9m w7 g3 C := Row.below hs3 hb5 (Row.lt hs3)
      replace hbw := hbw.trans (hb5.mono hbw.size)
      clear hb5)
   | (refine zay _ rfl 4 rfl _ rfl oz zwr ?_
      intro W4 g4 hg4 hl4 hr4 hG4
      have hne14 : g1 ≠ g4 := by have := Row.lt hr1; omega
      have hne34 : g3 ≠ g4 := by have := Row.lt hs3; omega
      have hle4 : w.heap.size <= g4 := by have := hbw.size; omega
      replace hr1 : zwu W4 g1 O := Row.grown0 hr1 hG4
      replace hs3 : z9m W4 g3 C := Row.grown0 hs3 hG4
      replace hr4 : zwu W4 g4 oz := hr4
      replace hbw := zav hbw hG4 jH)
   | (refine zwy rfl rfl _ _ rfl g4 (by exact rfl) B (by exact rfl) oz hr4 rfl hB.sz hB.one ?_
      intro w8 hs4 hG9
      replace hr1 : zwu w8 g1 O := Row.grown hr1 hG9 hne14
      replace hs3 : z9m w8 g3 C := Row.grown hs3 hG9 hne34
      replace hbw := zau hbw hG9 jH hle4)
   | (refine zww (by rfl) _ rfl g4 (by exact rfl) B hs4 hB.sz ?_)
   | (go_at_call 10; refine (c3 _ (z55 HW.out hbw)).mono ?_; rintro e w9 ⟨rfl, hb5⟩
      replace hbw := hbw.trans (hb5.mono hbw.size)
      clear hb5)
   | (go_at_call 48; refine (c4 _).mono ?_; rintro e w5 ⟨rfl, rfl⟩))
  go_ret
  first | exact ⟨by rw [HR.out rfl]; rfl, hbw⟩ | exact ⟨by rw [<- HR2.out rfl]; rfl, hbw⟩
end

section
open Go.RowKit Go.Shelf
set_option maxHeartbeats 16000000
set_option maxRecDepth 20000 in
theorem z70 (s : ByteArray) (w : World) :
 Calls Tryz.prog 32 #[.string s] w (z56 w (z7c (ls s))) := by
 by_cases h1 : 2048 < s.size
 ·have HP : Hid (z7c (ls s) = (3, uv0)) := jL (by unfold z7c; rw [zb4, if_pos h1])
  have hd : decide ((2048 : Int) < (s.size : Int)) = true := jT (by omega)
  clear h1
  go_enter Tryz.func32, Tryz.ntmps32
  go_wp2_with (first
   | (refine zay _ rfl 2 rfl _ rfl uz z5v ?_
      intro W1 g2 hg2 hl2 hr2 hG
      have hbw := zav (Below.refl w.heap.size w) hG jH)
   | (refine z9q rfl rfl _ _ rfl g2 (by exact rfl) uz (by exact rfl) uz hr2 rfl rfl (z9g _ _ _ _ _ _ _ _) ?_
      intro w7 hr7 hG7
      have hb7 := zau hbw hG7 jH hg2))
  exact z9r 2 3 rfl g2 rfl uz hr7 rfl _ rfl rfl ⟨by rw [HP.out]; rfl, hb7⟩
 ·have HP : Hid (z7c (ls s) = z7b (ls s)) := jL (by unfold z7c; rw [zb4, if_neg h1])
  have hd : decide ((2048 : Int) < (s.size : Int)) = false := jF (by omega)
  have c7 := fun W => z82 s W (by omega)
  unfold z56 at c7
  have hC := z6c (z7b (ls s)).2
  have hC1 := z6d (z7b (ls s)).2
  obtain ⟨C, hCe⟩ : ∃ C, C = (z7b (ls s)).2.cells := ⟨_, rfl⟩
  obtain ⟨n, hn⟩ : ∃ n, n = (z7b (ls s)).1 := ⟨_, rfl⟩
  rw [<- hCe] at c7 hC hC1
  rw [<- hn] at c7
  have HC := jL hCe
  have HN := jL hn
  clear h1 hCe hn
  go_enter Tryz.func32, Tryz.ntmps32
  go_wp2_with (first
   | (refine zay _ rfl 2 rfl _ rfl uz z5v ?_
      intro W1 g2 hg2 hl2 hr2 hG
      have hbw := zav (Below.refl w.heap.size w) hG jH)
   | (go_at_call 37; refine (c7 _).mono ?_; rintro e w5 ⟨rfl, hb5⟩
      replace hr2 : z9m w5 g2 uz := Row.below hr2 hb5 (Row.lt hr2)
      replace hbw := hbw.trans (hb5.mono hbw.size)
      clear hb5)
   | (refine z9q rfl rfl _ _ rfl g2 (by exact rfl) C (by exact rfl) uz hr2 rfl hC hC1 ?_
      intro w7 hr7 hG7
      have hb7 := zau hbw hG7 jH hg2))
  exact z9r 2 3 rfl g2 rfl C hr7 hC _ rfl rfl ⟨by rw [HP.out, <- HC.out, <- HN.out]; rfl, hb7⟩
end

section
open Go.RowKit Go.Shelf
set_option maxHeartbeats 16000000
def uO1 : Uv := ⟨[104, 116, 116, 112], [117], hvD [97], -1, [47, 120]⟩
def uO2 : Uv := ⟨[104, 116, 116, 112], [], ⟨2, [], 2131035655, [0, 0, 0, 0, 0, 0, 0, 0]⟩, -1, [47]⟩
def oO1 : Ov := ⟨[104, 116, 116, 112], hvD [97], 80⟩
theorem zvp : z7c [104, 116, 116, 112, 58, 47, 47, 117, 64, 97, 58, 56, 48, 47, 120] = (0, uO1) := by kernel_rfl
theorem zvq : z7c [104, 116, 116, 112, 58, 47, 47, 49, 50, 55, 46, 53, 46, 54, 46, 55, 47] = (0, uO2) := by kernel_rfl
theorem zvr : ofL uO1 = (true, oO1) := by kernel_rfl
theorem zvs : bs (zv4 oO1) = ⟨#[104, 116, 116, 112, 58, 47, 47, 97]⟩ := by kernel_rfl
theorem zvt : zwb uO2 = true := by kernel_rfl
theorem zvu : zwb uO1 = false := by kernel_rfl
theorem zvv : zwa uO2.host = true := by kernel_rfl
theorem zvw : uO2.host.Wf := ⟨by decide, ziv.1, ziv.2⟩
theorem zvx : USm uO1 := ⟨⟨by decide, ziv.1, ziv.2⟩, by decide, by decide, by decide, by decide, by decide, by decide⟩
theorem zvy : USm uO2 := ⟨zvw, by decide, by decide, by decide, by decide, by decide, by decide⟩
theorem zvz : OSm oO1 := ⟨⟨by decide, ziv.1, ziv.2⟩, by decide, by decide, by decide, by decide⟩
set_option maxRecDepth 20000 in
theorem zv0 (hPar : zfj 84) (hF : zf9 51) (hVal : zft 43) (hCov : zd4 44) (w : World) (hw : Uw w) :
 Calls Tryz.prog 22 #[] w (Yes w) := by
 have c1 := fun W => z70 ⟨#[104, 116, 116, 112, 58, 47, 47, 117, 64, 97, 58, 56, 48, 47, 120]⟩ W
 have c2 := fun W hW => zve hPar hF uO1 zvx W hW
 have c3 := fun W => z70 ⟨#[104, 116, 116, 112, 58, 47, 47, 49, 50, 55, 46, 53, 46, 54, 46, 55, 47]⟩ W
 have c4 := fun W hW => zvm hPar hF oO1 zvz W hW
 have c5 := fun W hW => zwo hPar hF hVal hCov uO2 zvy W hW
 have c6 := fun W hW => zwo hPar hF hVal hCov uO1 zvx W hW
 have c7 := fun W => zvn hVal hCov uO2.host W zvw (by decide)
 unfold z56 at c1 c3
 unfold zvd at c2
 simp only [show ls ⟨#[104, 116, 116, 112, 58, 47, 47, 117, 64, 97, 58, 56, 48, 47, 120]⟩ = [104, 116, 116, 112, 58, 47, 47, 117, 64, 97, 58, 56, 48, 47, 120] from rfl, zvp] at c1
 simp only [show ls ⟨#[104, 116, 116, 112, 58, 47, 47, 49, 50, 55, 46, 53, 46, 54, 46, 55, 47]⟩ = [104, 116, 116, 112, 58, 47, 47, 49, 50, 55, 46, 53, 46, 54, 46, 55, 47] from rfl, zvq] at c3
 simp only [zvr] at c2
 simp only [zvs] at c4
 simp only [zvt] at c5
 simp only [zvu] at c6
 simp only [zvv] at c7
 rw [show uO2.host.val = .agg uO2.host.cells from rfl] at c7
 have hA := z9t uO1
 have hB := z9t uO2
 have hO := zw0 oO1
 have hH2 : uO2.host.cells.size = 11 := rfl
 generalize uO1.cells = A at *
 generalize uO2.cells = B at *
 generalize uO2.host.cells = H at *
 generalize oO1.cells = O at *
 have HW := jL hw
 clear hw
 go_enter Tryz.func22, Tryz.ntmps22
 go_wp2_with fail
 refine (c1 _).mono ?_
 rintro e w1 ⟨rfl, hbw⟩
 go_wp2_with (first
  | (refine zay _ rfl 1 rfl _ rfl uz z5v ?_
     intro W1 g1 hg1 hl1 hr1 hG1
     have hle1 : w.heap.size <= g1 := by have := hbw.size; omega
     replace hbw := zav hbw hG1 jH)
  | (refine z9q rfl rfl _ _ rfl g1 (by exact rfl) A (by exact rfl) uz hr1 rfl hA.sz hA.one ?_
     intro w2 hs1 hG2
     replace hbw := zau hbw hG2 jH hle1)
  | (refine z9o (by rfl) _ rfl g1 (by exact rfl) A hs1 hA.sz ?_))
 refine (c2 _ (z55 HW.out hbw)).mono ?_
 rintro e w3 ⟨rfl, hb3⟩
 replace hs1 : z9m w3 g1 A := Row.below hs1 hb3 (Row.lt hs1)
 replace hbw := hbw.trans (hb3.mono hbw.size)
 clear hb3
 go_wp2_with (first
  | (refine zay _ rfl 3 rfl _ rfl oz zwr ?_
     intro W3 g3 hg3 hl3 hr3 hG3
     have hle3 : w.heap.size <= g3 := by have := hbw.size; omega
     have hne13 : g1 ≠ g3 := by have := Row.lt hs1; omega
     replace hs1 : z9m W3 g1 A := Row.grown0 hs1 hG3
     replace hbw := zav hbw hG3 jH)
  | (refine zwy rfl rfl _ _ rfl g3 (by exact rfl) O (by exact rfl) oz hr3 rfl hO.sz hO.one ?_
     intro w4 hs3 hG4
     replace hs1 : z9m w4 g1 A := Row.grown hs1 hG4 hne13
     replace hbw := zau hbw hG4 jH hle3))
 refine (c3 _).mono ?_
 rintro e w5 ⟨rfl, hb3⟩
 replace hs1 : z9m w5 g1 A := Row.below hs1 hb3 (Row.lt hs1)
 replace hs3 : zwu w5 g3 O := Row.below hs3 hb3 (Row.lt hs3)
 replace hbw := hbw.trans (hb3.mono hbw.size)
 clear hb3
 go_wp2_with (first
  | (refine zay _ rfl 5 rfl _ rfl uz z5v ?_
     intro W5 g5 hg5 hl5 hr5 hG5
     have hle5 : w.heap.size <= g5 := by have := hbw.size; omega
     have hne15 : g1 ≠ g5 := by have := Row.lt hs1; omega
     have hne35 : g3 ≠ g5 := by have := Row.lt hs3; omega
     replace hs1 : z9m W5 g1 A := Row.grown0 hs1 hG5
     replace hs3 : zwu W5 g3 O := Row.grown0 hs3 hG5
     replace hbw := zav hbw hG5 jH)
  | (refine z9q rfl rfl _ _ rfl g5 (by exact rfl) B (by exact rfl) uz hr5 rfl hB.sz hB.one ?_
     intro w6 hs5 hG6
     replace hs1 : z9m w6 g1 A := Row.grown hs1 hG6 hne15
     replace hs3 : zwu w6 g3 O := Row.grown hs3 hG6 hne35
     replace hbw := zau hbw hG6 jH hle5)
  | (refine zww (by rfl) _ rfl g3 (by exact rfl) O hs3 hO.sz ?_))
 refine (c4 _ (z55 HW.out hbw)).mono ?_
 rintro e w7 ⟨rfl, hb3⟩
 replace hs1 : z9m w7 g1 A := Row.below hs1 hb3 (Row.lt hs1)
 replace hs5 : z9m w7 g5 B := Row.below hs5 hb3 (Row.lt hs5)
 replace hbw := hbw.trans (hb3.mono hbw.size)
 clear hb3
 go_wp2_with (refine z9o (by rfl) _ rfl g5 (by exact rfl) B hs5 hB.sz ?_)
 refine (c5 _ (z55 HW.out hbw)).mono ?_
 rintro e w8 ⟨rfl, hb3⟩
 replace hs1 : z9m w8 g1 A := Row.below hs1 hb3 (Row.lt hs1)
 replace hs5 : z9m w8 g5 B := Row.below hs5 hb3 (Row.lt hs5)
 replace hbw := hbw.trans (hb3.mono hbw.size)
 clear hb3
 go_wp2_with (refine z9o (by rfl) _ rfl g1 (by exact rfl) A hs1 hA.sz ?_)
 refine (c6 _ (z55 HW.out hbw)).mono ?_
 rintro e w9 ⟨rfl, hb3⟩
 replace hs5 : z9m w9 g5 B := Row.below hs5 hb3 (Row.lt hs5)
 replace hbw := hbw.trans (hb3.mono hbw.size)
 clear hb3
 go_wp2_with (refine z9p (by rfl) _ rfl g5 (by exact rfl) B hs5 H hB.hh hH2 ?_)
 refine (c7 _).mono ?_
 rintro e wx ⟨rfl, hb3⟩
 replace hbw := hbw.trans (hb3.mono hbw.size)
 go_wp2_with fail
 go_ret
 exact ⟨rfl, hbw⟩
end

section
open Go.RowKit Go.Shelf
set_option maxHeartbeats 16000000
set_option maxRecDepth 20000 in
theorem zwm (u : Uv) (h : USm u) (hl : (z84 u).length <= 99999990) (w : World) (hw : Uw w) :
 Calls Tryz.prog 24 #[.agg u.cells] w (zvd w (ofL u)) := by
 have hC := z9t u
 have hH2 : u.host.cells.size = 11 := rfl
 have c1 := fun W => z8m (bs u.scheme) W
 rw [zb0] at c1
 have c2 := fun W hW => z92 u h hl W hW
 rw [z91] at c2
 have HW := jL hw
 cases hva : z6h u with
 | false =>
   have HE := jL (zvb hva)
   rw [hva] at c2
   generalize u.cells = C at *
   generalize u.host.cells = H at *
   generalize bs u.scheme = S at *
   generalize bs u.host.name = N at *
   clear hva h hw hl
   go_enter Tryz.func24, Tryz.ntmps24
   go_wp2_with (first
    | (refine zax _ rfl 1 rfl _ _ rfl _ C (by exact rfl) (by exact rfl) ?_
       intro W1 g1 hg1 hl1 hr1 hG1
       have hbw := zav (Below.refl w.heap.size w) hG1 jH
       obtain ⟨e0, e1, e3, e13, e14⟩ := hC.cell hr1)
    | (refine zay _ rfl 2 rfl _ rfl oz zwr ?_
       intro W2 g2 hg2 hl2 hr2 hG2
       have hne12 : g1 ≠ g2 := by have := Row.lt hr1; omega
       have hle2 : w.heap.size <= g2 := by have := hbw.size; omega
       replace hr1 : z9m W2 g1 C := Row.grown0 hr1 hG2
       replace hr2 : zwu W2 g2 oz := hr2
       replace hbw := zav hbw hG2 jH
       clear e0 e1 e3 e13 e14
       obtain ⟨e0, e1, e3, e13, e14⟩ := hC.cell hr1)
    | (refine z9o (by rfl) _ rfl g1 (by exact rfl) C hr1 hC.sz ?_)
    | (go_at_call 13; refine (c2 _ (z55 HW.out hbw)).mono ?_; rintro e wd0 ⟨rfl, hb5⟩
       clear e0 e1 e3 e13 e14
       replace hr1 : z9m wd0 g1 C := Row.below hr1 hb5 (Row.lt hr1)
       replace hr2 : zwu wd0 g2 oz := Row.below hr2 hb5 (Row.lt hr2)
       replace hbw := hbw.trans (hb5.mono hbw.size)
       clear hb5
       obtain ⟨e0, e1, e3, e13, e14⟩ := hC.cell hr1)
    | (refine zwy rfl rfl _ _ rfl g2 (by exact rfl) oz (by exact rfl) oz hr2 rfl rfl (zwq _ _ _ _ _ _) ?_
       intro w8 hr8 hG8
       have hb8 := zau hbw hG8 jH hle2))
   exact zwz 2 3 rfl g2 rfl oz hr8 rfl _ rfl rfl ⟨by rw [HE.out]; rfl, hb8⟩
 | true =>
 cases hsp : z6v u.scheme with
 | false =>
   have HE := jL (zva hsp)
   rw [hsp] at c1
   rw [hva] at c2
   generalize u.cells = C at *
   generalize u.host.cells = H at *
   generalize bs u.scheme = S at *
   generalize bs u.host.name = N at *
   clear hsp hva h hw hl
   go_enter Tryz.func24, Tryz.ntmps24
   go_wp2_with (first
    | (refine zax _ rfl 1 rfl _ _ rfl _ C (by exact rfl) (by exact rfl) ?_
       intro W1 g1 hg1 hl1 hr1 hG1
       have hbw := zav (Below.refl w.heap.size w) hG1 jH
       obtain ⟨e0, e1, e3, e13, e14⟩ := hC.cell hr1)
    | (refine zay _ rfl 2 rfl _ rfl oz zwr ?_
       intro W2 g2 hg2 hl2 hr2 hG2
       have hne12 : g1 ≠ g2 := by have := Row.lt hr1; omega
       have hle2 : w.heap.size <= g2 := by have := hbw.size; omega
       replace hr1 : z9m W2 g1 C := Row.grown0 hr1 hG2
       replace hr2 : zwu W2 g2 oz := hr2
       replace hbw := zav hbw hG2 jH
       clear e0 e1 e3 e13 e14
       obtain ⟨e0, e1, e3, e13, e14⟩ := hC.cell hr1)
    | (refine z9o (by rfl) _ rfl g1 (by exact rfl) C hr1 hC.sz ?_)
    | (go_at_call 13; refine (c2 _ (z55 HW.out hbw)).mono ?_; rintro e wd0 ⟨rfl, hb5⟩
       clear e0 e1 e3 e13 e14
       replace hr1 : z9m wd0 g1 C := Row.below hr1 hb5 (Row.lt hr1)
       replace hr2 : zwu wd0 g2 oz := Row.below hr2 hb5 (Row.lt hr2)
       replace hbw := hbw.trans (hb5.mono hbw.size)
       clear hb5
       obtain ⟨e0, e1, e3, e13, e14⟩ := hC.cell hr1)
    | (go_at_call 15; refine (c1 _).mono ?_; rintro e w5 ⟨rfl, rfl⟩)
    | (refine zwy rfl rfl _ _ rfl g2 (by exact rfl) oz (by exact rfl) oz hr2 rfl rfl (zwq _ _ _ _ _ _) ?_
       intro w8 hr8 hG8
       have hb8 := zau hbw hG8 jH hle2))
   exact zwz 2 3 rfl g2 rfl oz hr8 rfl _ rfl rfl ⟨by rw [HE.out]; rfl, hb8⟩
 | true =>
   rw [hsp] at c1
   rw [hva] at c2
   have c4 := fun W => z8n u W
   rw [show (if u.port = -1 then z6u u.scheme else u.port) = zv1 u from rfl] at c4
   have HE := jL (zvc hsp hva)
   have hO := zw0 ⟨u.scheme, u.host, zv1 u⟩
   obtain ⟨O, hOe⟩ : ∃ O, O = (Ov.mk u.scheme u.host (zv1 u)).cells := ⟨_, rfl⟩
   rw [<- hOe] at hO
   have HOe := jL hOe
   obtain ⟨sch, us, ⟨k, nm, v4, g⟩, prt, rst⟩ := u
   obtain ⟨x0, x1, x2, x3, x4, x5, x6, x7, rfl⟩ := zf5 g h.wf.2.1
   have HH : Hid ((Hv.mk k nm v4 [x0, x1, x2, x3, x4, x5, x6, x7]).cells = #[.int .i64 k, .string (bs nm), .int .u32 (v4 : Nat), .int .u16 (x0 : Nat), .int .u16 (x1 : Nat), .int .u16 (x2 : Nat), .int .u16 (x3 : Nat), .int .u16 (x4 : Nat), .int .u16 (x5 : Nat), .int .u16 (x6 : Nat), .int .u16 (x7 : Nat)]) := jL rfl
   have HO : Hid (O = #[.string (bs sch), .int .i64 k, .string (bs nm), .int .u32 (v4 : Nat), .int .u16 (x0 : Nat), .int .u16 (x1 : Nat), .int .u16 (x2 : Nat), .int .u16 (x3 : Nat), .int .u16 (x4 : Nat), .int .u16 (x5 : Nat), .int .u16 (x6 : Nat), .int .u16 (x7 : Nat), .int .i64 (zv1 ⟨sch, us, ⟨k, nm, v4, [x0, x1, x2, x3, x4, x5, x6, x7]⟩, prt, rst⟩)]) := jL (by rw [hOe]; rfl)
   clear hOe
   simp only at c1 c2 c4 hC hO hH2
   generalize zv1 ⟨sch, us, ⟨k, nm, v4, [x0, x1, x2, x3, x4, x5, x6, x7]⟩, prt, rst⟩ = q at *
   generalize (Uv.mk sch us ⟨k, nm, v4, [x0, x1, x2, x3, x4, x5, x6, x7]⟩ prt rst).cells = C at *
   generalize (Hv.mk k nm v4 [x0, x1, x2, x3, x4, x5, x6, x7]).cells = H at *
   generalize bs sch = S at *
   generalize bs nm = N at *
   generalize (v4 : Int) = v at *
   generalize (x0 : Int) = y0 at *
   generalize (x1 : Int) = y1 at *
   generalize (x2 : Int) = y2 at *
   generalize (x3 : Int) = y3 at *
   generalize (x4 : Int) = y4 at *
   generalize (x5 : Int) = y5 at *
   generalize (x6 : Int) = y6 at *
   generalize (x7 : Int) = y7 at *
   clear hsp hva h hw hl
   go_enter Tryz.func24, Tryz.ntmps24
   go_upto_region 3 with (first
    | (refine zax _ rfl 1 rfl _ _ rfl _ C (by exact rfl) (by exact rfl) ?_
       intro W1 g1 hg1 hl1 hr1 hG1
       have hbw := zav (Below.refl w.heap.size w) hG1 jH
       obtain ⟨e0, e1, e3, e13, e14⟩ := hC.cell hr1)
    | (refine zay _ rfl 2 rfl _ rfl oz zwr ?_
       intro W2 g2 hg2 hl2 hr2 hG2
       have hne12 : g1 ≠ g2 := by have := Row.lt hr1; omega
       have hle2 : w.heap.size <= g2 := by have := hbw.size; omega
       replace hr1 : z9m W2 g1 C := Row.grown0 hr1 hG2
       replace hr2 : zwu W2 g2 oz := hr2
       replace hbw := zav hbw hG2 jH
       clear e0 e1 e3 e13 e14
       obtain ⟨e0, e1, e3, e13, e14⟩ := hC.cell hr1)
    | (refine z9o (by rfl) _ rfl g1 (by exact rfl) C hr1 hC.sz ?_)
    | (go_at_call 13; refine (c2 _ (z55 HW.out hbw)).mono ?_; rintro e wd0 ⟨rfl, hb5⟩
       clear e0 e1 e3 e13 e14
       replace hr1 : z9m wd0 g1 C := Row.below hr1 hb5 (Row.lt hr1)
       replace hr2 : zwu wd0 g2 oz := Row.below hr2 hb5 (Row.lt hr2)
       replace hbw := hbw.trans (hb5.mono hbw.size)
       clear hb5
       obtain ⟨e0, e1, e3, e13, e14⟩ := hC.cell hr1)
    | (go_at_call 15; refine (c1 _).mono ?_; rintro e w5 ⟨rfl, rfl⟩))
   replace hr1 : z9m wd0.drew g1 C := hr1
   replace hr2 : zwu wd0.drew g2 oz := hr2
   replace hbw := hbw.drew
   clear e0 e1 e3 e13 e14
   refine wp_region_held_drew (S := fun W => z9m W g1 C) (by kernel_rfl) hr1 (fun _ => ?_)
   generalize wd0.drew = wd at *
   refine wpAnyH_take (i := 0) (v := .pointer (some ⟨g1, 0, none⟩)) rfl (by kernel_rfl) (by kernel_rfl) (by kernel_rfl) (fun _ _ _ h => h) (Or.inl ⟨by rfl, fun W hW => by go_simp; try (with_reducible rfl)⟩) hr1 ?_
   try simp only [Act.put, List.getElem_toArray, List.getElem_cons_zero, jqd, jqe, jqf]
   refine wpAnyH_take (i := 1) (v := .string S) rfl (by kernel_rfl) (by kernel_rfl) (by kernel_rfl) (fun _ _ _ h => h) (Or.inl ⟨by rfl, fun W hW => by have h9 := (hC.cell hW).1; go_simp; try (with_reducible rfl)⟩) hr1 ?_
   try simp only [Act.put, List.getElem_toArray, List.getElem_cons_zero, List.getElem_cons_succ, jqd, jqe, jqf]
   refine wpAnyH_take (i := 2) (v := .pointer (some ⟨g1, 2, none⟩)) rfl (by kernel_rfl) (by kernel_rfl) (by kernel_rfl) (fun _ _ _ h => h) (Or.inl ⟨by rfl, fun W hW => by go_simp; try (with_reducible rfl)⟩) hr1 ?_
   try simp only [Act.put, List.getElem_toArray, List.getElem_cons_zero, List.getElem_cons_succ, jqd, jqe, jqf]
   refine wpAnyH_take (i := 3) (v := .agg H) rfl (by kernel_rfl) (by kernel_rfl) (by kernel_rfl) (fun _ _ _ h => h) (z9b _ rfl (by rfl) g1 (by exact rfl) C H (fun W hW => hW) hC.hh hH2) hr1 ?_
   try simp only [Act.put, List.getElem_toArray, List.getElem_cons_zero, List.getElem_cons_succ, jqd, jqe, jqf]
   refine wpAnyH_take (i := 4) (v := .agg C) rfl (by kernel_rfl) (by kernel_rfl) (by kernel_rfl) (fun _ _ _ h => h) (z9a _ rfl (by rfl) g1 (by exact rfl) C (fun W hW => hW) hC.sz) hr1 ?_
   try simp only [Act.put, List.getElem_toArray, List.getElem_cons_zero, List.getElem_cons_succ, jqd, jqe, jqf]
   rw [HH.out]
   refine wpAnyH_ready (rs := [5]) (by kernel_rfl) (by simp) (AllReadyH.cons rfl (fun K hK => ?_) AllReadyH.nil)
   go_simp
   go_wp2_with fail
   refine (c4 _).mono ?_
   rintro e wA ⟨rfl, hbA⟩
   replace hr1 : z9m wA g1 C := Row.below hr1 hbA (Row.lt hr1)
   replace hr2 : zwu wA g2 oz := Row.below hr2 hbA (Row.lt hr2)
   replace hbw := hbw.trans (hbA.mono hbw.size)
   clear hbA
   refine hK.out _ _ hr1 (fun _ => ?_)
   clear hK K
   try simp only [Act.put, List.getElem_toArray, List.getElem_cons_zero, List.getElem_cons_succ, jqd, jqe, jqf]
   refine wpAnyH_take (i := 6) (v := .agg #[.string S, .int .i64 k, .string N, .int .u32 v, .int .u16 y0, .int .u16 y1, .int .u16 y2, .int .u16 y3, .int .u16 y4, .int .u16 y5, .int .u16 y6, .int .u16 y7, .int .i64 q]) rfl (by kernel_rfl) (by kernel_rfl) (by kernel_rfl) (fun _ _ _ h => h) (Or.inl ⟨by rfl, fun W hW => by go_simp; try (with_reducible rfl)⟩) hr1 ?_
   try simp only [Act.put, List.getElem_toArray, List.getElem_cons_zero, List.getElem_cons_succ, jqd, jqe, jqf]
   refine wpAnyH_ready (rs := [7]) (by kernel_rfl) (by simp) (AllReadyH.cons rfl (fun K hK => ?_) AllReadyH.nil)
   refine zw2 rfl rfl _ _ rfl g2 (by exact rfl) O (by rw [HO.out]; exact rfl) oz hr2 hO.sz rfl hO.one (fun w8 hr8 hG8 => ?_)
   replace hr1 : z9m w8 g1 C := Row.grown hr1 hG8 hne12
   have hb8 := zau hbw hG8 jH hle2
   refine hK.out _ _ hr1 (fun _ => ?_)
   clear hK K hG8
   try simp only [Act.put, List.getElem_toArray, List.getElem_cons_zero, List.getElem_cons_succ, jqd, jqe, jqf]
   refine wpAnyH_ready (rs := [8]) (by kernel_rfl) (by simp) (AllReadyH.cons rfl (fun K hK => ?_) AllReadyH.nil)
   go_simp
   refine hK.out _ _ hr1 (fun _ => ?_)
   clear hK K
   try simp only [Act.put, List.getElem_toArray, List.getElem_cons_zero, List.getElem_cons_succ, jqd, jqe, jqf]
   refine wpAnyH_done (by kernel_rfl) ?_ _
   go_wp2
   exact zwz 2 3 rfl g2 rfl O hr8 hO.sz _ rfl rfl ⟨by rw [HE.out, HOe.out]; rfl, hb8⟩
end

section
open Go.RowKit
set_option maxHeartbeats 16000000
def zsx (n : Int) (ss : List ByteArray) : Bool := ss.all fun s => decide ((s.size : Int) <= n)
theorem zsy (n : Int) (ss : List ByteArray) (k : Nat) (h : k < ss.length) (hn : n < (ss[k].size : Int)) : zsx n ss = false := by
 unfold zsx
 rw [List.all_eq_false]
 exact ⟨ss[k], List.getElem_mem h, by simp; omega⟩
theorem zsz (n : Int) (ss : List ByteArray) (k : Nat) (h : k < ss.length) (ht : zsx n (ss.take k) = true) (hn : (ss[k].size : Int) <= n) : zsx n (ss.take (k + 1)) = true := by
 unfold zsx at ht ⊢
 rw [List.take_succ_eq_append_getElem h, List.all_append, ht]
 simp [hn]
theorem zs0 (n : Int) (A : Option Addr) (len cap : Nat) (ss : List ByteArray) (B : Nat) (w : World) (hA : Has w B A len (ss.map Value.string)) (hlen : len <= 1000000000) :
 Calls Tryz.prog 29 #[.int .i64 n, .slice A len cap] w fun e w' => e = .returned (.bool (zsx n ss)) /\ w = w' := by
 have hl : ss.length = len := by simpa using hA.1
 go_enter Tryz.func29, Tryz.ntmps29
 have HL := jL hl
 have HA := jL hA
 clear hl hA
 go_wp2
 go_loop [5] (fun i => ∃ k : Nat, k <= len /\ i = .int .i64 k /\ zsx n (ss.take k) = true) (fun i => len - (intOf i).toNat)
 case atStart => exact ⟨0, Nat.zero_le _, rfl, rfl⟩
 case round =>
  obtain ⟨k, hk, rfl, hsh⟩ := hrel
  have HS := jL hsh
  clear hsh
  by_cases hlt : k < len
  ·have hks : k < ss.length := by rw [HL.out]; exact hlt
   obtain ⟨b, off, rfl, hb, hc⟩ := HA.out.at_ hlt
   rw [List.getElem_map] at hc
   by_cases hn : n < (ss[k].size : Int)
   ·have HF := jL (zsy n ss k hks hn)
    go_wp2
    go_ret
    exact ⟨zbx HF.out.symm, rfl⟩
   ·have HT := jL (zsz n ss k hks HS.out (by omega))
    go_wp2
    go_round
    case rel => exact ⟨k + 1, by omega, by go_num, HT.out⟩
    case measure => simp [intOf]; omega
  ·have HF : Hid (zsx n ss = true) := by
    have := HS.out
    rwa [List.take_of_length_le (by rw [HL.out]; omega)] at this
   go_wp2
   go_ret
   exact ⟨zbx HF.out.symm, rfl⟩
end

section
open Go.RowKit Go.Shelf
set_option maxHeartbeats 16000000
def Uv.UOk (u : Uv) : Prop := u.host.Wf /\ -9223372036854775808 <= u.port /\ u.port <= 9223372036854775807
theorem z9c (w : World) (a b c d : Value) (t : TypeId) : Has (w.alloc (.cells #[a, b, c, d] t)) (w.heap.size + 1) (some ⟨w.heap.size, 0, none⟩) 4 [a, b, c, d] :=
 ⟨rfl, fun _ => ⟨w.heap.size, 0, rfl, by omega, fun j hj => by
   rw [World.cell?_alloc_at _ _ _ _ rfl, Nat.zero_add]
   match j, hj with
   | 0, _ => rfl
   | 1, _ => rfl
   | 2, _ => rfl
   | 3, _ => rfl⟩⟩
def z9d (u : Uv) : Bool := zsx 1500 [bs u.scheme, bs u.user, bs u.host.name, bs u.rest]
theorem z9e {u : Uv} (h : z9d u = true) (hw : u.host.Wf) (h0 : -9223372036854775808 <= u.port) (h1 : u.port <= 9223372036854775807) : USm u /\ u.scheme.length <= 1500 /\ u.user.length <= 1500 /\ u.host.name.length <= 1500 /\ u.rest.length <= 1500 := by
 unfold z9d zsx at h
 simp [zb5] at h
 exact ⟨⟨hw, by omega, by omega, by omega, by omega, h0, h1⟩, by omega, by omega, by omega, by omega⟩
theorem z9f (u : Uv) (w : World) :
 Calls Tryz.prog 8 #[.agg u.cells] w fun e w' => e = .returned (.bool (z9d u)) /\ Below w.heap.size w w' := by
 have hC := z9t u
 have hq : z9d u = zsx 1500 [bs u.scheme, bs u.user, bs u.host.name, bs u.rest] := rfl
 rw [hq]
 clear hq
 generalize u.cells = C at *
 generalize u.host.cells = H at *
 generalize bs u.scheme = S at *
 generalize bs u.user = U at *
 generalize bs u.host.name = N at *
 generalize bs u.rest = R at *
 go_enter Tryz.func8, Tryz.ntmps8
 go_wp2_with (refine zax _ rfl 1 rfl _ _ rfl _ C (by exact rfl) (by exact rfl) ?_; intro W1 g1 hg1 hl1 hR1 hG1; have hbw := zav (Below.refl w.heap.size w) hG1 jH
              obtain ⟨e0, e1, e3, e13, e14⟩ := hC.cell hR1
              have cs := zs0 1500 (some ⟨W1.heap.size, 0, none⟩) 4 4 [S, U, N, R] (W1.heap.size + 1) (W1.alloc (.cells #[.string S, .string U, .string N, .string R] 9)) (z9c W1 _ _ _ _ _) (by omega)
              replace hbw := hbw.alloc hbw.size (.cells #[.string S, .string U, .string N, .string R] 9))
 refine cs.mono ?_
 rintro r w2 ⟨rfl, rfl⟩
 go_wp2
 go_ret
 exact ⟨rfl, hbw⟩
end

end Go.Proofs.YtekaljeicfjkjaaGreatDoor
