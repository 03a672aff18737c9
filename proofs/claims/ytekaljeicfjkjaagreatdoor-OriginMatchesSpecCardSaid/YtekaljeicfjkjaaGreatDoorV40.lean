/-
The law of the functions on origins (written by tools/gen-OrY.py).
The opener of layer 14: a host that came in (written by tools/gen-HoA.py).
The opener of a URL that came in (written by tools/gen-UrOp.py).
Contract of allDigits of package ipv4.
Contract of Numeric of package ipv4.
make([]byte, 0, n). No function of the program.
Contracts of Format and Parse of package ipv4; strconv.AppendUint.
-/
import Derived.Test.YtekaljeicfjkjaaGreatDoorV39
import Derived.Test.YtekaljeicfjkjaaGreatDoorV33
import Derived.Test.YtekaljeicfjkjaaGreatDoorV08
import Derived.OpenShut
import Derived.ChangeSame
import Derived.Test.YtekaljeicfjkjaaGreatDoorV22
import Derived.Test.YtekaljeicfjkjaaGreatDoorV07
import Derived.Laws.MakeOwn
import Derived.Test.YtekaljeicfjkjaaGreatDoorV09
namespace Go.Proofs.YtekaljeicfjkjaaGreatDoor
section
open Go.RowKit Go.Shelf
set_option maxHeartbeats 16000000
set_option maxRecDepth 20000 in
theorem walkOrMat (hPar : zfj 84) (hF : zf9 51) (hVal : zft 43) (hCov : zd4 44) (u : Uv) (w : World) (hu : u.UOk) (hw : Uw w) :
 Calls Tryz.prog 4 #[.agg u.cells] w (Yes w) := by
 obtain ⟨hwf, hp0, hp1⟩ := hu
 have cw := fun W hW => zv0 hPar hF hVal hCov W hW
 unfold Yes at cw
 have cS := fun W => z9f u W
 have hC := z9t u
 have HW := jL hw
 by_cases hs : z9d u = true
 ·obtain ⟨hsm, z1, z2, z3, z4⟩ := z9e hs hwf hp0 hp1
  rw [hs] at cS
  have hl : (z84 u).length <= 99999990 := by
   have h5 := zgt hwf
   have h7 : (z83 u.port).length <= 20 := by
    unfold z83
    split
    ·have := z1v u.port.toNat (by omega)
     rw [zb5] at this
     simp
     omega
    ·split <;> simp
   have h8 : (z7d u.user).length <= u.user.length + 1 := by unfold z7d; split <;> simp
   unfold z84
   split
   ·simp only [List.length_append, List.length_cons]
    omega
   ·simp only [List.length_append, List.length_cons]
    omega
  have c1 := fun W hW => zve hPar hF u hsm W hW
  have d1 := fun W hW => zwm u hsm hl W hW
  unfold zvd at c1 d1
  have c3 := fun W => zvn hVal hCov u.host W hwf (by have := hsm.hn; omega)
  have d3 := fun W => zvo zja zjf u.host W hwf (by have := hsm.hn; omega)
  rw [show u.host.val = .agg u.host.cells from rfl] at c3 d3
  have c4 := fun W hW => zwo hPar hF hVal hCov u hsm W hW
  have d4 := fun W hW => zwp u hsm hl W hW
  have hEq := fun W => zw4 (ofL u).2 (ofL u).2 (zvj hwf) (zvj hwf) W
  rw [zwd] at hEq
  have hB := zw0 (ofL u).2
  have hH2 : u.host.cells.size = 11 := rfl
  generalize (ofL u).2.cells = B at *
  generalize (ofL u).1 = k at *
  generalize zwa u.host = q1 at *
  generalize zwb u = q2 at *
  generalize u.cells = C at *
  generalize u.host.cells = H at *
  generalize bs u.scheme = S at *
  generalize bs u.user = U at *
  generalize bs u.host.name = N at *
  generalize bs u.rest = R at *
  have hk : (k == k) = true := by simp
  have hq1 : (q1 == q1) = true := by simp
  have hq2 : (q2 == q2) = true := by simp
  clear hs hl z1 z2 z3 z4 hsm hwf hp0 hp1 hw
  go_enter Tryz.func4, Tryz.ntmps4
  go_upto_region 5 with (first
   | (refine zax _ rfl 1 rfl _ _ rfl _ C (by exact rfl) (by exact rfl) ?_
      intro W1 g1 hg1 hl1 hr1 hG1
      have hbw := zav (Below.refl w.heap.size w) hG1 jH)
   | (refine z9o (by rfl) _ rfl g1 (by exact rfl) C hr1 hC.sz ?_)
   | (go_at_call 8; refine (cS _).mono ?_; rintro e w5 ⟨rfl, hb5⟩
      replace hr1 : z9m w5 g1 C := Row.below hr1 hb5 (Row.lt hr1)
      replace hbw := hbw.trans (hb5.mono hbw.size)
      clear hb5)
   | (go_at_call 23; refine (c1 _ (z55 HW.out hbw)).mono ?_; rintro e w6 ⟨rfl, hb5⟩
      replace hr1 : z9m w6 g1 C := Row.below hr1 hb5 (Row.lt hr1)
      replace hbw := hbw.trans (hb5.mono hbw.size)
      clear hb5)
   | (refine zay _ rfl 3 rfl _ rfl oz zwr ?_
      intro W3 g3 hg3 hl3 hn3 hG3
      have hle3 : w.heap.size <= g3 := by have := hbw.size; omega
      have hne13 : g1 ≠ g3 := by have := Row.lt hr1; omega
      replace hr1 : z9m W3 g1 C := Row.grown0 hr1 hG3
      replace hbw := zav hbw hG3 jH)
   | (refine zwy rfl rfl _ _ rfl g3 (by exact rfl) B (by exact rfl) oz hn3 rfl hB.sz hB.one ?_
      intro w4 hr3 hG4
      replace hr1 : z9m w4 g1 C := Row.grown hr1 hG4 hne13
      replace hbw := zau hbw hG4 jH hle3)
   | (go_at_call 24; refine (d1 _ (z55 HW.out hbw)).mono ?_; rintro e w7 ⟨rfl, hb5⟩
      replace hr1 : z9m w7 g1 C := Row.below hr1 hb5 (Row.lt hr1)
      replace hr3 : zwu w7 g3 B := Row.below hr3 hb5 (Row.lt hr3)
      replace hbw := hbw.trans (hb5.mono hbw.size)
      clear hb5)
   | (refine zay _ rfl 5 rfl _ rfl oz zwr ?_
      intro W5 g5 hg5 hl5 hn5 hG5
      have hle5 : w.heap.size <= g5 := by have := hbw.size; omega
      have hne15 : g1 ≠ g5 := by have := Row.lt hr1; omega
      have hne35 : g3 ≠ g5 := by have := Row.lt hr3; omega
      replace hr3 : zwu W5 g3 B := Row.grown0 hr3 hG5
      replace hr1 : z9m W5 g1 C := Row.grown0 hr1 hG5
      replace hbw := zav hbw hG5 jH)
   | (refine zwy rfl rfl _ _ rfl g5 (by exact rfl) B (by exact rfl) oz hn5 rfl hB.sz hB.one ?_
      intro wd0 hr5 hG6
      replace hr1 : z9m wd0 g1 C := Row.grown hr1 hG6 hne15
      replace hr3 : zwu wd0 g3 B := Row.grown hr3 hG6 hne35
      replace hbw := zau hbw hG6 jH hle5))
  replace hr1 : z9m wd0.drew g1 C := hr1
  replace hr3 : zwu wd0.drew g3 B := hr3
  replace hr5 : zwu wd0.drew g5 B := hr5
  replace hbw := hbw.drew
  refine wp_region_held_drew (S := fun W => z9m W g1 C /\ zwu W g3 B /\ zwu W g5 B) (by kernel_rfl) ⟨hr1, hr3, hr5⟩ (fun _ => ?_)
  generalize wd0.drew = wd at *
  refine wpAnyH_take (i := 0) (v := .agg B) rfl (by kernel_rfl) (by kernel_rfl) (by kernel_rfl) (fun _ _ _ h => h) (zw3 _ rfl (by rfl) g3 (by exact rfl) B (fun W hW => hW.2.1) hB.sz) ⟨hr1, hr3, hr5⟩ ?_
  try simp only [Act.put, List.getElem_toArray, List.getElem_cons_zero, jqd, jqe, jqf]
  refine wpAnyH_take (i := 1) (v := .agg B) rfl (by kernel_rfl) (by kernel_rfl) (by kernel_rfl) (fun _ _ _ h => h) (zw3 _ rfl (by rfl) g5 (by exact rfl) B (fun W hW => hW.2.2) hB.sz) ⟨hr1, hr3, hr5⟩ ?_
  try simp only [Act.put, List.getElem_toArray, List.getElem_cons_zero, List.getElem_cons_succ, jqd, jqe, jqf]
  refine wpAnyH_take (i := 2) (v := .bool true) rfl (by kernel_rfl) (by kernel_rfl) (by kernel_rfl) (fun _ _ _ h => h) (Or.inl ⟨by rfl, fun W hW => by have h9 := hEq W; go_simp; try (with_reducible rfl)⟩) ⟨hr1, hr3, hr5⟩ ?_
  try simp only [Act.put, List.getElem_toArray, List.getElem_cons_zero, List.getElem_cons_succ, jqd, jqe, jqf]
  refine wpAnyH_take (i := 3) (v := .bool true) rfl (by kernel_rfl) (by kernel_rfl) (by kernel_rfl) (fun _ _ _ h => h) (Or.inl ⟨by rfl, fun W hW => by go_simp; try (with_reducible rfl)⟩) ⟨hr1, hr3, hr5⟩ ?_
  try simp only [Act.put, List.getElem_toArray, List.getElem_cons_zero, List.getElem_cons_succ, jqd, jqe, jqf]
  refine wpAnyH_take (i := 4) (v := .bool k) rfl (by kernel_rfl) (by kernel_rfl) (by kernel_rfl) (fun _ _ _ h => h) (Or.inl ⟨by rfl, fun W hW => by go_simp; try (with_reducible rfl)⟩) ⟨hr1, hr3, hr5⟩ ?_
  try simp only [Act.put, List.getElem_toArray, List.getElem_cons_zero, List.getElem_cons_succ, jqd, jqe, jqf]
  refine wpAnyH_take (i := 5) (v := .bool k) rfl (by kernel_rfl) (by kernel_rfl) (by kernel_rfl) (fun _ _ _ h => h) (Or.inl ⟨by rfl, fun W hW => by go_simp; try (with_reducible rfl)⟩) ⟨hr1, hr3, hr5⟩ ?_
  try simp only [Act.put, List.getElem_toArray, List.getElem_cons_zero, List.getElem_cons_succ, jqd, jqe, jqf]
  refine wpAnyH_take (i := 6) (v := .bool true) rfl (by kernel_rfl) (by kernel_rfl) (by kernel_rfl) (fun _ _ _ h => h) (Or.inl ⟨by rfl, fun W hW => by go_simp; try (with_reducible rfl)⟩) ⟨hr1, hr3, hr5⟩ ?_
  try simp only [Act.put, List.getElem_toArray, List.getElem_cons_zero, List.getElem_cons_succ, jqd, jqe, jqf]
  refine wpAnyH_take (i := 7) (v := .bool true) rfl (by kernel_rfl) (by kernel_rfl) (by kernel_rfl) (fun _ _ _ h => h) (Or.inl ⟨by rfl, fun W hW => by go_simp; try (with_reducible rfl)⟩) ⟨hr1, hr3, hr5⟩ ?_
  try simp only [Act.put, List.getElem_toArray, List.getElem_cons_zero, List.getElem_cons_succ, jqd, jqe, jqf]
  refine wpAnyH_take (i := 8) (v := .bool true) rfl (by kernel_rfl) (by kernel_rfl) (by kernel_rfl) (fun _ _ _ h => h) (Or.inl ⟨by rfl, fun W hW => by go_simp; try (with_reducible rfl)⟩) ⟨hr1, hr3, hr5⟩ ?_
  try simp only [Act.put, List.getElem_toArray, List.getElem_cons_zero, List.getElem_cons_succ, jqd, jqe, jqf]
  refine wpAnyH_take (i := 9) (v := .pointer (some ⟨g1, 2, none⟩)) rfl (by kernel_rfl) (by kernel_rfl) (by kernel_rfl) (fun _ _ _ h => h) (Or.inl ⟨by rfl, fun W hW => by go_simp; try (with_reducible rfl)⟩) ⟨hr1, hr3, hr5⟩ ?_
  try simp only [Act.put, List.getElem_toArray, List.getElem_cons_zero, List.getElem_cons_succ, jqd, jqe, jqf]
  refine wpAnyH_take (i := 10) (v := .agg H) rfl (by kernel_rfl) (by kernel_rfl) (by kernel_rfl) (fun _ _ _ h => h) (z9b _ rfl (by rfl) g1 (by exact rfl) C H (fun W hW => hW.1) hC.hh hH2) ⟨hr1, hr3, hr5⟩ ?_
  try simp only [Act.put, List.getElem_toArray, List.getElem_cons_zero, List.getElem_cons_succ, jqd, jqe, jqf]
  refine wpAnyH_take (i := 12) (v := .pointer (some ⟨g1, 2, none⟩)) rfl (by kernel_rfl) (by kernel_rfl) (by kernel_rfl) (fun _ _ _ h => h) (Or.inl ⟨by rfl, fun W hW => by go_simp; try (with_reducible rfl)⟩) ⟨hr1, hr3, hr5⟩ ?_
  try simp only [Act.put, List.getElem_toArray, List.getElem_cons_zero, List.getElem_cons_succ, jqd, jqe, jqf]
  refine wpAnyH_take (i := 13) (v := .agg H) rfl (by kernel_rfl) (by kernel_rfl) (by kernel_rfl) (fun _ _ _ h => h) (z9b _ rfl (by rfl) g1 (by exact rfl) C H (fun W hW => hW.1) hC.hh hH2) ⟨hr1, hr3, hr5⟩ ?_
  try simp only [Act.put, List.getElem_toArray, List.getElem_cons_zero, List.getElem_cons_succ, jqd, jqe, jqf]
  refine wpAnyH_ready (rs := [11]) (by kernel_rfl) (by simp) (AllReadyH.cons rfl (fun K hK => ?_) AllReadyH.nil)
  go_simp
  go_wp2_with fail
  refine (c3 _).mono ?_
  rintro e wA ⟨rfl, hbA⟩
  replace hr1 : z9m wA g1 C := Row.below hr1 hbA (Row.lt hr1)
  replace hr3 : zwu wA g3 B := Row.below hr3 hbA (Row.lt hr3)
  replace hr5 : zwu wA g5 B := Row.below hr5 hbA (Row.lt hr5)
  replace hbw := hbw.trans (hbA.mono hbw.size)
  clear hbA
  refine hK.out _ _ ⟨hr1, hr3, hr5⟩ (fun _ => ?_)
  clear hK K
  try simp only [Act.put, List.getElem_toArray, List.getElem_cons_zero, List.getElem_cons_succ, jqd, jqe, jqf]
  refine wpAnyH_ready (rs := [14]) (by kernel_rfl) (by simp) (AllReadyH.cons rfl (fun K hK => ?_) AllReadyH.nil)
  go_simp
  go_wp2_with fail
  refine (d3 _).mono ?_
  rintro e wA ⟨rfl, hbA⟩
  replace hr1 : z9m wA g1 C := Row.below hr1 hbA (Row.lt hr1)
  replace hr3 : zwu wA g3 B := Row.below hr3 hbA (Row.lt hr3)
  replace hr5 : zwu wA g5 B := Row.below hr5 hbA (Row.lt hr5)
  replace hbw := hbw.trans (hbA.mono hbw.size)
  clear hbA
  refine hK.out _ _ ⟨hr1, hr3, hr5⟩ (fun _ => ?_)
  clear hK K
  try simp only [Act.put, List.getElem_toArray, List.getElem_cons_zero, List.getElem_cons_succ, jqd, jqe, jqf]
  refine wpAnyH_take (i := 15) (v := .bool true) rfl (by kernel_rfl) (by kernel_rfl) (by kernel_rfl) (fun _ _ _ h => h) (Or.inl ⟨by rfl, fun W hW => by go_simp; try (with_reducible rfl)⟩) ⟨hr1, hr3, hr5⟩ ?_
  try simp only [Act.put, List.getElem_toArray, List.getElem_cons_zero, List.getElem_cons_succ, jqd, jqe, jqf]
  refine wpAnyH_take (i := 16) (v := .bool true) rfl (by kernel_rfl) (by kernel_rfl) (by kernel_rfl) (fun _ _ _ h => h) (Or.inl ⟨by rfl, fun W hW => by go_simp; try (with_reducible rfl)⟩) ⟨hr1, hr3, hr5⟩ ?_
  try simp only [Act.put, List.getElem_toArray, List.getElem_cons_zero, List.getElem_cons_succ, jqd, jqe, jqf]
  refine wpAnyH_take (i := 17) (v := .bool true) rfl (by kernel_rfl) (by kernel_rfl) (by kernel_rfl) (fun _ _ _ h => h) (Or.inl ⟨by rfl, fun W hW => by go_simp; try (with_reducible rfl)⟩) ⟨hr1, hr3, hr5⟩ ?_
  try simp only [Act.put, List.getElem_toArray, List.getElem_cons_zero, List.getElem_cons_succ, jqd, jqe, jqf]
  refine wpAnyH_take (i := 18) (v := .agg C) rfl (by kernel_rfl) (by kernel_rfl) (by kernel_rfl) (fun _ _ _ h => h) (z9a _ rfl (by rfl) g1 (by exact rfl) C (fun W hW => hW.1) hC.sz) ⟨hr1, hr3, hr5⟩ ?_
  try simp only [Act.put, List.getElem_toArray, List.getElem_cons_zero, List.getElem_cons_succ, jqd, jqe, jqf]
  refine wpAnyH_take (i := 20) (v := .agg C) rfl (by kernel_rfl) (by kernel_rfl) (by kernel_rfl) (fun _ _ _ h => h) (z9a _ rfl (by rfl) g1 (by exact rfl) C (fun W hW => hW.1) hC.sz) ⟨hr1, hr3, hr5⟩ ?_
  try simp only [Act.put, List.getElem_toArray, List.getElem_cons_zero, List.getElem_cons_succ, jqd, jqe, jqf]
  refine wpAnyH_ready (rs := [19]) (by kernel_rfl) (by simp) (AllReadyH.cons rfl (fun K hK => ?_) AllReadyH.nil)
  go_simp
  go_wp2_with fail
  refine (c4 _ (z55 HW.out hbw)).mono ?_
  rintro e wA ⟨rfl, hbA⟩
  replace hr1 : z9m wA g1 C := Row.below hr1 hbA (Row.lt hr1)
  replace hr3 : zwu wA g3 B := Row.below hr3 hbA (Row.lt hr3)
  replace hr5 : zwu wA g5 B := Row.below hr5 hbA (Row.lt hr5)
  replace hbw := hbw.trans (hbA.mono hbw.size)
  clear hbA
  refine hK.out _ _ ⟨hr1, hr3, hr5⟩ (fun _ => ?_)
  clear hK K
  try simp only [Act.put, List.getElem_toArray, List.getElem_cons_zero, List.getElem_cons_succ, jqd, jqe, jqf]
  refine wpAnyH_ready (rs := [21]) (by kernel_rfl) (by simp) (AllReadyH.cons rfl (fun K hK => ?_) AllReadyH.nil)
  go_simp
  go_wp2_with fail
  refine (d4 _ (z55 HW.out hbw)).mono ?_
  rintro e wA ⟨rfl, hbA⟩
  replace hr1 : z9m wA g1 C := Row.below hr1 hbA (Row.lt hr1)
  replace hr3 : zwu wA g3 B := Row.below hr3 hbA (Row.lt hr3)
  replace hr5 : zwu wA g5 B := Row.below hr5 hbA (Row.lt hr5)
  replace hbw := hbw.trans (hbA.mono hbw.size)
  clear hbA
  refine hK.out _ _ ⟨hr1, hr3, hr5⟩ (fun _ => ?_)
  clear hK K
  try simp only [Act.put, List.getElem_toArray, List.getElem_cons_zero, List.getElem_cons_succ, jqd, jqe, jqf]
  refine wpAnyH_take (i := 22) (v := .bool true) rfl (by kernel_rfl) (by kernel_rfl) (by kernel_rfl) (fun _ _ _ h => h) (Or.inl ⟨by rfl, fun W hW => by go_simp; try (with_reducible rfl)⟩) ⟨hr1, hr3, hr5⟩ ?_
  try simp only [Act.put, List.getElem_toArray, List.getElem_cons_zero, List.getElem_cons_succ, jqd, jqe, jqf]
  refine wpAnyH_take (i := 23) (v := .bool true) rfl (by kernel_rfl) (by kernel_rfl) (by kernel_rfl) (fun _ _ _ h => h) (Or.inl ⟨by rfl, fun W hW => by go_simp; try (with_reducible rfl)⟩) ⟨hr1, hr3, hr5⟩ ?_
  try simp only [Act.put, List.getElem_toArray, List.getElem_cons_zero, List.getElem_cons_succ, jqd, jqe, jqf]
  refine wpAnyH_take (i := 24) (v := .bool true) rfl (by kernel_rfl) (by kernel_rfl) (by kernel_rfl) (fun _ _ _ h => h) (Or.inl ⟨by rfl, fun W hW => by go_simp; try (with_reducible rfl)⟩) ⟨hr1, hr3, hr5⟩ ?_
  try simp only [Act.put, List.getElem_toArray, List.getElem_cons_zero, List.getElem_cons_succ, jqd, jqe, jqf]
  refine wpAnyH_ready (rs := [25]) (by kernel_rfl) (by simp) (AllReadyH.cons rfl (fun K hK => ?_) AllReadyH.nil)
  go_simp
  go_wp2_with fail
  refine (cw _ (z55 HW.out hbw)).mono ?_
  rintro e wA ⟨rfl, hbA⟩
  replace hr1 : z9m wA g1 C := Row.below hr1 hbA (Row.lt hr1)
  replace hr3 : zwu wA g3 B := Row.below hr3 hbA (Row.lt hr3)
  replace hr5 : zwu wA g5 B := Row.below hr5 hbA (Row.lt hr5)
  replace hbw := hbw.trans (hbA.mono hbw.size)
  clear hbA
  refine hK.out _ _ ⟨hr1, hr3, hr5⟩ (fun _ => ?_)
  clear hK K
  try simp only [Act.put, List.getElem_toArray, List.getElem_cons_zero, List.getElem_cons_succ, jqd, jqe, jqf]
  refine wpAnyH_take (i := 26) (v := .bool true) rfl (by kernel_rfl) (by kernel_rfl) (by kernel_rfl) (fun _ _ _ h => h) (Or.inl ⟨by rfl, fun W hW => by go_simp; try (with_reducible rfl)⟩) ⟨hr1, hr3, hr5⟩ ?_
  try simp only [Act.put, List.getElem_toArray, List.getElem_cons_zero, List.getElem_cons_succ, jqd, jqe, jqf]
  refine wpAnyH_ready (rs := [27]) (by kernel_rfl) (by simp) (AllReadyH.cons rfl (fun K hK => ?_) AllReadyH.nil)
  go_simp
  refine hK.out _ _ ⟨hr1, hr3, hr5⟩ (fun _ => ?_)
  clear hK K
  try simp only [Act.put, List.getElem_toArray, List.getElem_cons_zero, List.getElem_cons_succ, jqd, jqe, jqf]
  refine wpAnyH_done (by kernel_rfl) ?_ _
  go_wp2
  go_ret
  exact ⟨rfl, hbw⟩
 ·have hs' : z9d u = false := by simpa using hs
  rw [hs'] at cS
  generalize u.cells = C at *
  clear hs hs' hwf hp0 hp1 hw
  go_enter Tryz.func4, Tryz.ntmps4
  go_wp2_with (first
   | (refine zax _ rfl 1 rfl _ _ rfl _ C (by exact rfl) (by exact rfl) ?_
      intro W1 g1 hg1 hl1 hr1 hG1
      have hbw := zav (Below.refl w.heap.size w) hG1 jH)
   | (refine z9o (by rfl) _ rfl g1 (by exact rfl) C hr1 hC.sz ?_)
   | (go_at_call 8; refine (cS _).mono ?_; rintro e w5 ⟨rfl, hb5⟩
      replace hr1 : z9m w5 g1 C := Row.below hr1 hb5 (Row.lt hr1)
      replace hbw := hbw.trans (hb5.mono hbw.size)
      clear hb5)
   | (go_at_call 22; refine (cw _ (z55 HW.out hbw)).mono ?_; rintro e wA ⟨rfl, hb5⟩
      replace hbw := hbw.trans (hb5.mono hbw.size)))
  go_ret
  exact ⟨rfl, hbw⟩
end

section
open Go.RowKit
set_option maxHeartbeats 16000000
theorem zfx : Tryz.prog.underlying 3 = some (.int .i64) := by kernel_rfl
theorem zfy : Tryz.prog.underlying 23 = some (.int .u16) := by kernel_rfl
theorem zfz : Tryz.prog.underlying 22 = some (.int .u32) := by kernel_rfl
theorem zf0 : Tryz.prog.underlying 9 = some .string := by kernel_rfl
theorem zf1 {v : Int} (h : (Lit.int .u16 v).wf = true) : ∃ n : Nat, v = (n : Int) /\ n < 65536 := by
 have h1 : IntKind.u16.min = 0 := rfl
 have h2 : IntKind.u16.max = 65535 := rfl
 simp [Lit.wf, h1, h2] at h
 exact ⟨v.toNat, by omega, by omega⟩
theorem zf2 {v : Int} (h : (Lit.int .u32 v).wf = true) : ∃ n : Nat, v = (n : Int) /\ n < 4294967296 := by
 have h1 : IntKind.u32.min = 0 := rfl
 have h2 : IntKind.u32.max = 4294967295 := rfl
 simp [Lit.wf, h1, h2] at h
 exact ⟨v.toNat, by omega, by omega⟩
open Go.ChangeShapes Go.WideShapes in
set_option maxRecDepth 100000 in
theorem zf3 {H : Type} {enc : TypeId × Value -> H} {W : World} {held : Bool} {fuel : Nat} {c0 c1 c2 c3 c4 c5 c6 c7 : Value} {x : DataW H × List MemPlace} (hf : DataW.trod enc Tryz.prog W 0 (fun _ => true) held fuel 24 [c0, c1, c2, c3, c4, c5, c6, c7] = some x) :
 ∃ n0 n1 n2 n3 n4 n5 n6 n7 : Nat, c0 = .int .u16 n0 /\ c1 = .int .u16 n1 /\ c2 = .int .u16 n2 /\ c3 = .int .u16 n3 /\ c4 = .int .u16 n4 /\ c5 = .int .u16 n5 /\ c6 = .int .u16 n6 /\ c7 = .int .u16 n7 /\ G16 [n0, n1, n2, n3, n4, n5, n6, n7] := by
 have hc1 : Tryz.prog.cellsOf 23 = 1 := by kernel_rfl
 match fuel with
 | 0 => simp [DataW.trod] at hf
 | n + 1 =>
   unfold DataW.trod at hf
   rw [Tryz.underlying24] at hf
   simp [show List.range 8 = [0, 1, 2, 3, 4, 5, 6, 7] from rfl, hc1] at hf
   cases h0 : DataW.trod enc Tryz.prog W 0 (fun _ => true) held n 23 [c0] with
   | none => simp [h0] at hf
   | some y0 =>
     cases h1 : DataW.trod enc Tryz.prog W 0 (fun _ => true) held n 23 [c1] with
     | none => simp [h0, h1] at hf
     | some y1 =>
       cases h2 : DataW.trod enc Tryz.prog W 0 (fun _ => true) held n 23 [c2] with
       | none => simp [h0, h1, h2] at hf
       | some y2 =>
         cases h3 : DataW.trod enc Tryz.prog W 0 (fun _ => true) held n 23 [c3] with
         | none => simp [h0, h1, h2, h3] at hf
         | some y3 =>
           cases h4 : DataW.trod enc Tryz.prog W 0 (fun _ => true) held n 23 [c4] with
           | none => simp [h0, h1, h2, h3, h4] at hf
           | some y4 =>
             cases h5 : DataW.trod enc Tryz.prog W 0 (fun _ => true) held n 23 [c5] with
             | none => simp [h0, h1, h2, h3, h4, h5] at hf
             | some y5 =>
               cases h6 : DataW.trod enc Tryz.prog W 0 (fun _ => true) held n 23 [c6] with
               | none => simp [h0, h1, h2, h3, h4, h5, h6] at hf
               | some y6 =>
                 cases h7 : DataW.trod enc Tryz.prog W 0 (fun _ => true) held n 23 [c7] with
                 | none => simp [h0, h1, h2, h3, h4, h5, h6, h7] at hf
                 | some y7 =>
                   obtain ⟨x0, e0, _, w0⟩ := DataW.trod_int zfy h0
                   obtain ⟨x1, e1, _, w1⟩ := DataW.trod_int zfy h1
                   obtain ⟨x2, e2, _, w2⟩ := DataW.trod_int zfy h2
                   obtain ⟨x3, e3, _, w3⟩ := DataW.trod_int zfy h3
                   obtain ⟨x4, e4, _, w4⟩ := DataW.trod_int zfy h4
                   obtain ⟨x5, e5, _, w5⟩ := DataW.trod_int zfy h5
                   obtain ⟨x6, e6, _, w6⟩ := DataW.trod_int zfy h6
                   obtain ⟨x7, e7, _, w7⟩ := DataW.trod_int zfy h7
                   simp at e0 e1 e2 e3 e4 e5 e6 e7
                   subst e0 e1 e2 e3 e4 e5 e6 e7
                   obtain ⟨n0, rfl, b0⟩ := zf1 w0
                   obtain ⟨n1, rfl, b1⟩ := zf1 w1
                   obtain ⟨n2, rfl, b2⟩ := zf1 w2
                   obtain ⟨n3, rfl, b3⟩ := zf1 w3
                   obtain ⟨n4, rfl, b4⟩ := zf1 w4
                   obtain ⟨n5, rfl, b5⟩ := zf1 w5
                   obtain ⟨n6, rfl, b6⟩ := zf1 w6
                   obtain ⟨n7, rfl, b7⟩ := zf1 w7
                   refine ⟨n0, n1, n2, n3, n4, n5, n6, n7, rfl, rfl, rfl, rfl, rfl, rfl, rfl, rfl, ?_⟩
                   intro x hx
                   simp only [List.mem_cons, List.not_mem_nil, or_false] at hx
                   rcases hx with rfl | rfl | rfl | rfl | rfl | rfl | rfl | rfl <;> assumption
end

section
open Go.RowKit
set_option maxHeartbeats 16000000
theorem z6o {v : Int} (h : (Lit.int .i64 v).wf = true) : -9223372036854775808 <= v /\ v <= 9223372036854775807 := by
 have h1 : IntKind.i64.min = -9223372036854775808 := rfl
 have h2 : IntKind.i64.max = 9223372036854775807 := rfl
 simp [Lit.wf, h1, h2] at h
 exact h
open Go.ChangeShapes Go.WideShapes Go.ChangeMaps in
set_option maxRecDepth 100000 in
theorem z6p {H : Type} {enc : TypeId × Value -> H} {W : World} {held : Bool} {fuel : Nat} {c0 c1 c2 c3 c4 c5 c6 c7 c8 c9 c10 : Value} {x : DataW H × List MemPlace} (hf : DataW.trod enc Tryz.prog W 0 (fun _ => true) held fuel 26 [c0, c1, c2, c3, c4, c5, c6, c7, c8, c9, c10] = some x) :
 ∃ Z : Hv, [c0, c1, c2, c3, c4, c5, c6, c7, c8, c9, c10] = Z.cells.toList /\ Z.Wf := by
 have hci : Tryz.prog.cellsOf 3 = 1 := by kernel_rfl
 have hcs : Tryz.prog.cellsOf 9 = 1 := by kernel_rfl
 have hc32 : Tryz.prog.cellsOf 22 = 1 := by kernel_rfl
 have hc8 : Tryz.prog.cellsOf 24 = 8 := by kernel_rfl
 obtain ⟨ys, n', _, _, _, hyl, hg⟩ := DataW.trod_struct Tryz.underlying26 hf
 obtain ⟨y0, y1, y2, y3, rfl⟩ : ∃ y0 y1 y2 y3, ys = [y0, y1, y2, y3] := by
  match ys, hyl with
  | [y0, y1, y2, y3], _ => exact ⟨y0, y1, y2, y3, rfl⟩
 have s0 : DataW.trod enc Tryz.prog W 0 (fun _ => true) held n' 3 [c0] = some y0 := by
  have := hg 0 _ rfl
  change DataW.trod _ _ _ _ _ _ _ 3 (List.take (Tryz.prog.cellsOf 3) _) = _ at this
  rw [hci] at this
  exact this
 have s1 : DataW.trod enc Tryz.prog W 0 (fun _ => true) held n' 9 [c1] = some y1 := by
  have := hg 1 _ rfl
  change DataW.trod _ _ _ _ _ _ _ 9 (List.take (Tryz.prog.cellsOf 9) _) = _ at this
  rw [hcs] at this
  exact this
 have s2 : DataW.trod enc Tryz.prog W 0 (fun _ => true) held n' 22 [c2] = some y2 := by
  have := hg 2 _ rfl
  change DataW.trod _ _ _ _ _ _ _ 22 (List.take (Tryz.prog.cellsOf 22) _) = _ at this
  rw [hc32] at this
  exact this
 have s3 : DataW.trod enc Tryz.prog W 0 (fun _ => true) held n' 24 [c3, c4, c5, c6, c7, c8, c9, c10] = some y3 := by
  have := hg 3 _ rfl
  change DataW.trod _ _ _ _ _ _ _ 24 (List.take (Tryz.prog.cellsOf 24) _) = _ at this
  rw [hc8] at this
  exact this
 obtain ⟨x0, e0, _, _⟩ := DataW.trod_int zfx s0
 obtain ⟨x1, e1, _, w1⟩ := DataW.trod_string zf0 s1
 obtain ⟨x2, e2, _, w2⟩ := DataW.trod_int zfz s2
 obtain ⟨n0, n1, n2, n3, n4, n5, n6, n7, rfl, rfl, rfl, rfl, rfl, rfl, rfl, rfl, hG⟩ := zf3 s3
 simp at e0 e1 e2
 subst e0 e1 e2
 obtain ⟨m2, rfl, b2⟩ := zf2 w2
 refine ⟨⟨x0, ls x1, m2, [n0, n1, n2, n3, n4, n5, n6, n7]⟩, ?_, b2, rfl, hG⟩
 unfold Hv.cells
 rw [zb1]
 rfl
open Go.ChangeShapes Go.WideShapes Go.ChangeMaps in
set_option maxRecDepth 100000 in
theorem open_url {H : Type} {enc : TypeId × Value -> H} {W : World} {base : Nat} {held : Bool} {v : Value} {d : DataW H} {p : List MemPlace} (hval : Value.okWide Tryz.prog W .any base 28 v) (h : DataW.Trod enc Tryz.prog W 0 (fun _ => true) held 28 v d p) :
 ∃ Z : Uv, v = .agg Z.cells /\ Z.UOk := by
 obtain ⟨cs, rfl, hsz⟩ := Go.WideShapes.okWide_struct Tryz.underlying28 hval
 have hc15 : Tryz.prog.cellsOf 28 = 15 := by kernel_rfl
 have hci : Tryz.prog.cellsOf 3 = 1 := by kernel_rfl
 have hcs : Tryz.prog.cellsOf 9 = 1 := by kernel_rfl
 have hch : Tryz.prog.cellsOf 26 = 11 := by kernel_rfl
 rw [hc15] at hsz
 obtain ⟨l⟩ := cs
 obtain ⟨u0, u1, u2, u3, u4, u5, u6, u7, u8, u9, u10, u11, u12, u13, u14, rfl⟩ : ∃ u0 u1 u2 u3 u4 u5 u6 u7 u8 u9 u10 u11 u12 u13 u14, l = [u0, u1, u2, u3, u4, u5, u6, u7, u8, u9, u10, u11, u12, u13, u14] := by
  match l, hsz with
  | [u0, u1, u2, u3, u4, u5, u6, u7, u8, u9, u10, u11, u12, u13, u14], _ => exact ⟨u0, u1, u2, u3, u4, u5, u6, u7, u8, u9, u10, u11, u12, u13, u14, rfl⟩
 obtain ⟨fuel, hf⟩ := h
 obtain ⟨ys, n', _, _, _, hyl, hg⟩ := DataW.trod_struct Tryz.underlying28 hf
 obtain ⟨y0, y1, y2, y3, y4, rfl⟩ : ∃ y0 y1 y2 y3 y4, ys = [y0, y1, y2, y3, y4] := by
  match ys, hyl with
  | [y0, y1, y2, y3, y4], _ => exact ⟨y0, y1, y2, y3, y4, rfl⟩
 have s0 : DataW.trod enc Tryz.prog W 0 (fun _ => true) held n' 9 [u0] = some y0 := by
  have := hg 0 _ rfl
  change DataW.trod _ _ _ _ _ _ _ 9 (List.take (Tryz.prog.cellsOf 9) _) = _ at this
  rw [hcs] at this
  exact this
 have s1 : DataW.trod enc Tryz.prog W 0 (fun _ => true) held n' 9 [u1] = some y1 := by
  have := hg 1 _ rfl
  change DataW.trod _ _ _ _ _ _ _ 9 (List.take (Tryz.prog.cellsOf 9) _) = _ at this
  rw [hcs] at this
  exact this
 have s2 : DataW.trod enc Tryz.prog W 0 (fun _ => true) held n' 26 [u2, u3, u4, u5, u6, u7, u8, u9, u10, u11, u12] = some y2 := by
  have := hg 2 _ rfl
  change DataW.trod _ _ _ _ _ _ _ 26 (List.take (Tryz.prog.cellsOf 26) _) = _ at this
  rw [hch] at this
  exact this
 have s3 : DataW.trod enc Tryz.prog W 0 (fun _ => true) held n' 3 [u13] = some y3 := by
  have := hg 3 _ rfl
  change DataW.trod _ _ _ _ _ _ _ 3 (List.take (Tryz.prog.cellsOf 3) _) = _ at this
  rw [hci] at this
  exact this
 have s4 : DataW.trod enc Tryz.prog W 0 (fun _ => true) held n' 9 [u14] = some y4 := by
  have := hg 4 _ rfl
  change DataW.trod _ _ _ _ _ _ _ 9 (List.take (Tryz.prog.cellsOf 9) _) = _ at this
  rw [hcs] at this
  exact this
 obtain ⟨x0, e0, _, _⟩ := DataW.trod_string zf0 s0
 obtain ⟨x1, e1, _, _⟩ := DataW.trod_string zf0 s1
 obtain ⟨Z, eZ, hZ⟩ := z6p s2
 obtain ⟨x3, e3, _, w3⟩ := DataW.trod_int zfx s3
 obtain ⟨x4, e4, _, _⟩ := DataW.trod_string zf0 s4
 have b3 := z6o w3
 refine ⟨⟨ls x0, ls x1, Z, x3, ls x4⟩, ?_, hZ, b3.1, b3.2⟩
 simp at e0 e1 e3 e4
 subst e0 e1 e3 e4
 obtain ⟨k, n, v4, g⟩ := Z
 have eZ2 : [u2, u3, u4, u5, u6, u7, u8, u9, u10, u11, u12] = [.int .i64 k, .string (bs n), .int .u32 (v4 : Nat), .int .u16 ((g.getD 0 0 : Nat) : Int), .int .u16 ((g.getD 1 0 : Nat) : Int), .int .u16 ((g.getD 2 0 : Nat) : Int), .int .u16 ((g.getD 3 0 : Nat) : Int), .int .u16 ((g.getD 4 0 : Nat) : Int), .int .u16 ((g.getD 5 0 : Nat) : Int), .int .u16 ((g.getD 6 0 : Nat) : Int), .int .u16 ((g.getD 7 0 : Nat) : Int)] := eZ
 simp only [List.cons.injEq, and_true] at eZ2
 obtain ⟨rfl, rfl, rfl, rfl, rfl, rfl, rfl, rfl, rfl, rfl, rfl⟩ := eZ2
 show Value.agg _ = .agg (uc (bs (ls x0)) (bs (ls x1)) k (bs n) (v4 : Nat) g x3 (bs (ls x4)))
 rw [zb1, zb1, zb1]
 rfl
end

section
open Go.RowKit
set_option maxHeartbeats 16000000
theorem zry (s : ByteArray) (hs : s.size <= 1000000000) (b : Nat) (hb : b <= 16) (w : World) :
 Calls Tryz.prog 148 #[.string s, .int .u64 b] w fun e w' => e = .returned (.bool ((ls s).all (fun c => decide (zqh c < b)))) /\ w = w' := by
 go_enter Tryz.func148, Tryz.ntmps148
 go_wp2
 go_loop [8] (fun i => ∃ k : Nat, k <= s.size /\ i = .int .i64 k /\ Hid ((ls s).all (fun c => decide (zqh c < b)) = ((ls s).drop k).all (fun c => decide (zqh c < b)))) (fun i => s.size - (intOf i).toNat)
 case atStart => exact ⟨0, Nat.zero_le _, rfl, jL rfl⟩
 case round =>
  obtain ⟨k, hk, rfl, HA⟩ := hrel
  by_cases hlt : k < s.size
  ·have hd := zrh s[k]
   have HD : Hid (((ls s).drop k).all (fun c => decide (zqh c < b)) = (decide (zqh s[k] < b) && ((ls s).drop (k + 1)).all (fun c => decide (zqh c < b)))) := by
    show _ = _
    rw [zcc s k hlt, List.all_cons]
   by_cases hg : zqh s[k] < b
   ·have hge : decide ((b : Int) <= ((pd s[k] : Nat) : Int)) = false := jF (by have := (zr6 s[k] b hb).2 hg; omega)
    have HN : Hid ((ls s).all (fun c => decide (zqh c < b)) = ((ls s).drop (k + 1)).all (fun c => decide (zqh c < b))) := by
     show _ = _
     rw [HA.out, HD.out, jT hg, Bool.true_and]
    clear hg
    generalize ((pd s[k] : Nat) : Int) = d at *
    go_wp2_with (go_at_call 177; refine (hd _).mono ?_; rintro e w' ⟨rfl, rfl⟩)
    go_round
    case rel => exact ⟨k + 1, by omega, by go_num, HN⟩
    case measure => simp [intOf]; omega
   ·have hge : decide ((b : Int) <= ((pd s[k] : Nat) : Int)) = true := jT (by have := mt (zr6 s[k] b hb).1 hg; omega)
    have HN : Hid ((ls s).all (fun c => decide (zqh c < b)) = false) := by
     show _ = _
     rw [HA.out, HD.out, jF hg, Bool.false_and]
    clear hg
    generalize ((pd s[k] : Nat) : Int) = d at *
    go_wp2_with (go_at_call 177; refine (hd _).mono ?_; rintro e w' ⟨rfl, rfl⟩)
    go_ret
    exact ⟨zbx HN.out.symm, rfl⟩
  ·obtain rfl : k = s.size := by omega
   have HN : Hid ((ls s).all (fun c => decide (zqh c < b)) = true) := by
    show _ = _
    rw [HA.out, zcd]
    rfl
   go_wp2
   go_ret
   exact ⟨zbx HN.out.symm, rfl⟩
end

section
open Go.RowKit
set_option maxHeartbeats 16000000
theorem zrz (s : ByteArray) (hs : s.size <= 1000000000) (w : World) :
 Calls Tryz.prog 111 #[.string s] w fun e w' => e = .returned (.bool (zqn (ls s))) /\ w = w' := by
 have c1 := zrj s hs w
 obtain ⟨T, hT⟩ : ∃ T, T = bs (zr0 (ls s)) := ⟨_, rfl⟩
 rw [<- hT] at c1
 have hTs : T.size <= 1000000000 := by rw [hT, zb5]; have := zro (ls s); rw [zb4] at this; omega
 obtain ⟨i, hi, hib, hlast⟩ := zso T
 have c2 := fun W => Any.strings_LastIndexByte Tryz.lays149 T 46 (by omega) W
 obtain ⟨x, hx⟩ : ∃ x, x = Lib.lastIndexByte T 46 := ⟨_, rfl⟩
 rw [<- hx] at c2 hi
 obtain ⟨X, hX⟩ : ∃ X, X = T.extract i T.size := ⟨_, rfl⟩
 have hL : ls X = (ls T).drop i := by
  rw [hX, zb9]
  exact List.take_of_length_le (by rw [List.length_drop, zb4]; omega)
 have hXs : X.size <= 1000000000 := by rw [hX, ByteArray.size_extract]; omega
 have hV : zqn (ls s) = if zsa (ls X) = true then ((ls X).drop 2).all (fun c => decide (zqh c < 16)) else (!(ls X).isEmpty && (ls X).all (fun c => decide (zqh c < 10))) := by
  rw [zsr, <- zsq, hL, <- hlast, hT, zb0]
 have c3 := zri X
 have hx0 : -1 <= x := by omega
 have hx1 : x <= 1000000000 := by omega
 have hxi : x = (i : Int) - 1 := by omega
 subst hxi
 have hii : (i : Int) - 1 + 1 = (i : Int) := by omega
 have HX := jL hX
 clear hT hlast hL hx hi hX
 by_cases hh : zsa (ls X) = true
 ·rw [if_pos hh] at hV
  rw [hh] at c3
  obtain ⟨b, r, e, _⟩ := (zsb _).1 hh
  have h2 : 2 <= X.size := by rw [<- zb4, e]; simp
  have c4 := zry (X.extract 2 X.size) (by rw [ByteArray.size_extract]; omega) 16 (by omega)
  have e2 : ls (X.extract 2 X.size) = (ls X).drop 2 := by
   rw [zb9]
   exact List.take_of_length_le (by rw [List.length_drop, zb4]; exact jH)
  rw [e2] at c4
  have HV := jL hV
  generalize ((ls X).drop 2).all (fun c => decide (zqh c < 16)) = q at *
  clear hV hh e e2
  go_enter Tryz.func111, Tryz.ntmps111
  go_wp2_with fail
  refine c1.mono ?_
  rintro e w' ⟨rfl, rfl⟩
  go_wp2_with fail
  refine (c2 _).mono ?_
  rintro e w' ⟨rfl, rfl⟩
  go_wp2_with fail
  rw [<- HX.out]
  refine (c3 _).mono ?_
  rintro e w' ⟨rfl, rfl⟩
  go_wp2_with fail
  refine (c4 _).mono ?_
  rintro e w' ⟨rfl, rfl⟩
  go_wp2
  go_ret
  exact ⟨zbx HV.out.symm, rfl⟩
 ·rw [if_neg hh] at hV
  rw [Bool.not_eq_true] at hh
  rw [hh] at c3
  have hemp : (ls X).isEmpty = decide (X.size = 0) := z2p X
  by_cases h0 : X.size = 0
  ·have hE : X.toList = ([] : List UInt8) := by rw [zb3]; exact List.eq_nil_of_length_eq_zero (by rw [zb4]; exact h0)
   have HV : Hid (zqn (ls s) = false) := by show _ = _; rw [hV, hemp, jT h0]; rfl
   clear hV hh hemp
   go_enter Tryz.func111, Tryz.ntmps111
   go_wp2_with fail
   refine c1.mono ?_
   rintro e w' ⟨rfl, rfl⟩
   go_wp2_with fail
   refine (c2 _).mono ?_
   rintro e w' ⟨rfl, rfl⟩
   go_wp2_with fail
   rw [<- HX.out]
   refine (c3 _).mono ?_
   rintro e w' ⟨rfl, rfl⟩
   go_wp2
   go_ret
   exact ⟨zbx HV.out.symm, rfl⟩
  ·have hE : ¬ X.toList = ([] : List UInt8) := by rw [zb3]; exact zrq X (Nat.pos_of_ne_zero h0)
   have hE2 : X.toList.isEmpty = false := by rw [zb3, hemp, jF h0]
   have c4 := zry X hXs 10 (by omega)
   have HV : Hid (zqn (ls s) = (ls X).all (fun c => decide (zqh c < 10))) := by show _ = _; rw [hV, hemp, jF h0]; rfl
   generalize (ls X).all (fun c => decide (zqh c < 10)) = q at *
   clear hV hh hemp
   go_enter Tryz.func111, Tryz.ntmps111
   go_wp2_with fail
   refine c1.mono ?_
   rintro e w' ⟨rfl, rfl⟩
   go_wp2_with fail
   refine (c2 _).mono ?_
   rintro e w' ⟨rfl, rfl⟩
   go_wp2_with fail
   rw [<- HX.out]
   refine (c3 _).mono ?_
   rintro e w' ⟨rfl, rfl⟩
   go_wp2_with fail
   refine (c4 _).mono ?_
   rintro e w' ⟨rfl, rfl⟩
   go_wp2
   go_ret
   exact ⟨zbx HV.out.symm, rfl⟩
end

section
open Go.RowKit
set_option maxHeartbeats 16000000
theorem zu9 (w : World) {ops : Array Oper} {rest : List Oper} {o : Oper} {a : Act} {Q : Exit -> Act -> World -> Prop}
 (hg : o.guard = none) (l c : Operand) (hop : o.op = Op.makeSlice 72 l c) (n : Int) (hl : a.eval l = .int .i64 0) (hc : a.eval c = .int .i64 n) (h0 : 0 <= n) (hn : n <= 4000000000)
 (h : ∀ v' w', w'.ownsRow w.heap.size 5 1 v' 0 [] -> Below w.heap.size w w' -> wpList Tryz.prog ops Q rest (a.put o.dst v') w') : wpList Tryz.prog ops Q (o :: rest) a w := by
 refine wpList_plain hg fun K hK' => ?_
 obtain ⟨i, hi, hz0, hz1, hz2⟩ := info_parts z37
 have hrun := run_make (P := Tryz.prog) w 72 5 i (.int .u8 0) z34 hi hz0 .i64 .i64 0 n (by omega) (by omega) (by rw [hz2]; omega) (by omega)
 rw [hz1, Nat.mul_one] at hrun
 have hm : madeCells (Value.int .u8 0).cells n.toNat = zcg n.toNat := zch _
 rw [hm] at hrun
 have := h (.slice (some ⟨w.heap.size, 0, none⟩) 0 n.toNat) (w.alloc (.cells (zcg n.toNat) 5))
  ⟨rfl, .inr ⟨w.heap.size, n.toNat, zcg n.toNat, rfl, jH, by show (w.heap.push _)[w.heap.size]? = _; simp, Nat.zero_le _, by unfold maxLen; omega, by simp [zcg], by simp⟩⟩
  ((Below.refl _ _).alloc jH _)
 unfold Oper.wp
 simp [execOp, hop, hl, hc, hrun, Result.andThen]
 exact hK' _ _ this
end

section
open Go.RowKit
set_option maxHeartbeats 16000000
theorem zrv (B n u : Nat) (hu : u < 18446744073709551616) (sv : Value) (l : List UInt8) (w : World) (hp : Pow w) (hown : w.ownsRow B 5 1 sv n (l.map bv)) (hB : B <= w.heap.size) (hn : n <= 1000000000) :
 Calls Tryz.prog 98 #[sv, .int .u64 u, .int .i64 10] w fun e w' => ∃ v', e = .returned v' /\ w'.ownsRow B 5 1 v' (n + (Lib.decDigits u).length) ((l ++ Lib.decDigits u).map bv) /\ Below B w w' := by
 have c1 := Any.internal_strconv_AppendUint_10 Tryz.laysM288 B n u hu sv (l.map bv) w hown hB (by omega) hp
 have HM : Hid (∀ m : List UInt8, l.map bv ++ Lib.byteCells m = (l ++ m).map bv) := by
  show ∀ m : List UInt8, _ = _
  intro m
  rw [List.map_append]
  rfl
 clear hown hp
 go_enter Tryz.func98, Tryz.ntmps98
 go_wp2_with fail
 refine c1.mono ?_
 rintro e w' ⟨v', rfl, h1, h2, _⟩
 rw [HM.out] at h1
 go_wp2
 go_ret
 exact ⟨_, rfl, h1, h2⟩
set_option maxRecDepth 20000 in
theorem zrw (v : Int) (hv0 : 0 <= v) (hv1 : v < 4294967296) (w : World) (hp : Pow w) :
 Calls Tryz.prog 72 #[.int .u32 v] w fun e w' => e = .returned (.string (bs (zqs v.toNat))) /\ Below w.heap.size w w' := by
 obtain ⟨i5, hi5, hz0, hz1, hz2⟩ := info_parts z37
 have hF : zst v.toNat 4 = zqs v.toNat := zsu _ (by omega)
 have HF := jL hF
 clear hF
 go_enter Tryz.func72, Tryz.ntmps72
 go_wp2_with (refine zu9 _ rfl _ _ rfl 15 rfl rfl (by decide) (by decide) ?_; intro v0 w0 hown0 hb0)
 go_loopg [3, 7] 4 (fun g t i wr => ∃ k : Nat, k <= 4 /\ g = 4 - k /\ i = .int .i64 k /\ wr.ownsRow w.heap.size 5 1 t (zst v.toNat k).length ((zst v.toNat k).map bv) /\ Below w.heap.size w wr)
 case atStart => exact ⟨0, by omega, rfl, rfl, hown0, hb0⟩
 case round =>
  obtain ⟨k, hk, hg, rfl, hown, hb⟩ := hrel
  have HG := jL hg
  clear hg
  have hlen := zsw v.toNat k
  by_cases hk4 : k < 4
  ·obtain ⟨K, hK⟩ : ∃ K, K = 8 * (3 - k) := ⟨_, rfl⟩
   have hKK : (8 : Int) * (3 - (k : Int)) = (K : Int) := by omega
   have hK32 : K <= 32 := by omega
   obtain ⟨r, hr⟩ : ∃ r : Nat, r = v.toNat / 2 ^ K := ⟨_, rfl⟩
   have hrv : v / 2 ^ K = (r : Int) := by
    rw [hr, Int.natCast_ediv, Int.natCast_pow, show ((v.toNat : Nat) : Int) = v by omega]
    rfl
   have HR := jL hrv
   have hrb : r < 4294967296 := by
    rw [hr]
    exact Nat.lt_of_le_of_lt (Nat.div_le_self _ _) (by omega)
   obtain ⟨u, hu⟩ : ∃ u, u = r % 256 := ⟨_, rfl⟩
   have hand : bits .and .u64 (r : Int) 255 = (u : Int) := by
    have := u64_and_nat r 255 (by omega) (by omega)
    rw [show ((255 : Nat) : Int) = 255 from rfl] at this
    rw [this, hu, show 255 = 2 ^ 8 - 1 from rfl, Nat.and_two_pow_sub_one_eq_mod]
   have hwr : IntKind.u64.wrap (r : Int) = (r : Int) := by rw [IntKind.wrap_u64]; omega
   have hdec : Lib.decDigits (v.toNat / 256 ^ (3 - k) % 256) = Lib.decDigits u := by
    rw [hu, hr, hK, Nat.pow_mul]
   have hub : u < 256 := by omega
   have hdl := zsv u hub
   by_cases h0 : k = 0
   ·have HN : Hid (zst v.toNat (k + 1) = zst v.toNat k ++ Lib.decDigits u) := by
     show _ = _
     rw [zst, hdec, if_pos h0]
     rfl
    have hd : decide ((0 : Int) < (k : Int)) = false := jF (by omega)
    have hdN : decide (0 < k) = false := jF (by omega)
    have HU := jL (show u < 18446744073709551616 by omega)
    clear hK hr hrv hu hdec h0
    go_wp2_with (refine za2 _ rfl _ _ _ _ rfl (by kernel_rfl) _ K hK32 (by exact rfl) (by exact rfl) _ HR.out ?_)
    refine (zrv w.heap.size _ u HU.out _ _ _ (zw7 hp hb) hown hb.size (by omega)).mono ?_
    rintro e w1 ⟨v1, rfl, hown1, hb1⟩
    replace hb1 := hb.trans hb1
    have hl : (zst v.toNat (k + 1)).length = (zst v.toNat k).length + (Lib.decDigits u).length := by rw [HN.out, List.length_append]
    rw [<- HN.out, <- hl] at hown1
    go_wp2
    go_roundg (4 - (k + 1))
    case rel => exact ⟨k + 1, by omega, rfl, by go_num, hown1, hb1⟩
    case measure => rw [HG.out]; omega
   ·have HN : Hid (zst v.toNat (k + 1) = (zst v.toNat k ++ [46]) ++ Lib.decDigits u) := by
     show _ = _
     rw [zst, hdec, if_neg h0, List.append_assoc]
    have hd : decide ((0 : Int) < (k : Int)) = true := jT (by omega)
    have hdN : decide (0 < k) = true := jT (by omega)
    have HU := jL (show u < 18446744073709551616 by omega)
    clear hK hr hrv hu hdec h0
    go_wp2_with (at_builtin; refine zcq wr rfl _ _ 72 rfl w.heap.size 5 i5 (.int .u8 0) 1 z34 hi5 hz0 hz1 hz2 rfl _ (by exact rfl) _ _ _ (by exact rfl) hown (by exact rfl) (by unfold maxLen; omega) (by omega) hb jH ?_; intro v2 w2 hown2 hb2 hgr)
    rw [show (zst v.toNat k).map bv ++ [Value.int .u8 46] = (zst v.toNat k ++ [46]).map bv by rw [List.map_append]; rfl] at hown2
    go_wp2_with fail
    rw [HR.out, hwr, hand]
    refine (zrv w.heap.size _ u HU.out _ _ _ (zw7 hp hb2) hown2 hb2.size (by omega)).mono ?_
    rintro e w1 ⟨v1, rfl, hown1, hb1⟩
    replace hb1 := hb2.trans hb1
    have hl : (zst v.toNat (k + 1)).length = (zst v.toNat k).length + 1 + (Lib.decDigits u).length := by rw [HN.out, List.length_append, List.length_append]; rfl
    rw [<- HN.out, <- hl] at hown1
    go_wp2
    go_roundg (4 - (k + 1))
    case rel => exact ⟨k + 1, by omega, rfl, by go_num, hown1, hb1⟩
    case measure => rw [HG.out]; omega
  ·obtain rfl : k = 4 := by omega
   have hconv := z39 wr _ _ _ _ hown
   rw [HF.out] at hconv
   go_wp2
   go_ret
   exact ⟨rfl, hb⟩
theorem zrx (s : ByteArray) (w : World) (hs : s.size <= 1000000000) (hp : Pow w) :
 Calls Tryz.prog 175 #[.string s] w fun e w' => e = .returned (.tuple #[.int .u32 (aV (zqr (ls s))), .bool (aK (zqr (ls s)))]) /\ Below w.heap.size w w' := by
 have c1 := zru s hs w
 cases hq : pnL (ls s) with
 | none =>
   have HE : Hid (zqr (ls s) = none) := by show _ = _; rw [zss, hq]
   rw [hq, show aV (none : Option Nat) = 0 from rfl, show aK (none : Option Nat) = false from rfl] at c1
   clear hq
   go_enter Tryz.func175, Tryz.ntmps175
   go_wp2_with fail
   refine c1.mono ?_
   rintro e w' ⟨rfl, rfl⟩
   go_wp2
   go_ret2
   rw [HE.out]
   exact ⟨rfl, Below.refl _ _⟩
 | some v =>
   have hv := zsk hq
   have c2 := zrw (v : Int) (by omega) (by omega) w hp
   rw [show ((v : Int)).toNat = v from rfl] at c2
   rw [hq, show aV (some v) = (v : Int) from rfl, show aK (some v) = true from rfl] at c1
   by_cases hf : zqs v = ls s
   ·have HE : Hid (zqr (ls s) = some v) := by show _ = _; rw [zss, hq]; exact if_pos hf
    rw [hf, zb1] at c2
    clear hq hf
    go_enter Tryz.func175, Tryz.ntmps175
    go_wp2_with fail
    refine c1.mono ?_
    rintro e w' ⟨rfl, hw⟩
    subst hw
    go_wp2_with fail
    refine c2.mono ?_
    rintro e w2 ⟨rfl, hb⟩
    go_wp2
    go_ret2
    rw [HE.out]
    exact ⟨rfl, hb⟩
   ·have HE : Hid (zqr (ls s) = none) := by show _ = _; rw [zss, hq]; exact if_neg hf
    obtain ⟨X, hX⟩ : ∃ X, X = bs (zqs v) := ⟨_, rfl⟩
    have hne : ¬ X.toList = s.toList := by
     rw [zb3, zb3, hX, zb0]
     exact hf
    have hn2 : (X.toList == s.toList) = false := beq_eq_false_iff_ne.2 hne
    have hn3 : (!X.toList == s.toList) = true := by rw [hn2]; rfl
    rw [<- hX] at c2
    clear hq hf hX
    go_enter Tryz.func175, Tryz.ntmps175
    go_wp2_with fail
    refine c1.mono ?_
    rintro e w' ⟨rfl, hw⟩
    subst hw
    go_wp2_with fail
    refine c2.mono ?_
    rintro e w2 ⟨rfl, hb⟩
    go_wp2
    go_ret2
    rw [HE.out]
    exact ⟨rfl, hb⟩
end

end Go.Proofs.YtekaljeicfjkjaaGreatDoor
