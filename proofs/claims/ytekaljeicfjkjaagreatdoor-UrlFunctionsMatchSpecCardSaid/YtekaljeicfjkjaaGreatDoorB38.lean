/-
The law of the functions on URLs (written by tools/gen-UrFn.py).
Contract of allDigits of package ipv4.
Contract of Numeric of package ipv4.
make([]byte, 0, n). No function of the program.
Contracts of Format and Parse of package ipv4; strconv.AppendUint.
-/
import Derived.Test.YtekaljeicfjkjaaGreatDoorB37
import Derived.Test.YtekaljeicfjkjaaGreatDoorB22
import Derived.Test.YtekaljeicfjkjaaGreatDoorB07
import Derived.Laws.MakeOwn
import Derived.Test.YtekaljeicfjkjaaGreatDoorB09
namespace Go.Proofs.YtekaljeicfjkjaaGreatDoor
section
open Go.RowKit Go.Shelf
def Uv.UOk (u : Uv) : Prop := u.host.Wf ∧ -9223372036854775808 ≤ u.port ∧ u.port ≤ 9223372036854775807
theorem z3x (u : Uv) : (if z8p u = true then bs (z7o u) else ⟨#[]⟩) = (if z4l u = true then bs (z32 u) else ⟨#[]⟩) := by
 rw [z8q]
 cases h : z4l u with
 | false => rfl
 | true =>
   have hp := z68 (zu4.1 h)
   rw [if_pos rfl, if_pos rfl, z7p hp, z33 hp]
set_option maxRecDepth 20000 in
set_option maxHeartbeats 8000000 in
theorem walkUrFn (hPar : zfg 84) (hF : zf6 51) (u : Uv) (w : World) (hu : u.UOk) (hw : Uw w) :
 Calls Tryz.prog 3 #[.agg u.cells] w (Yes w) := by
 obtain ⟨hwf, hp0, hp1⟩ := hu
 have cw := fun W hW => z45 hPar hF W hW
 unfold Yes at cw
 have cS := fun W => z74 u W
 have hC := z8i u
 have HW := Lib.hid hw
 by_cases hs : z72 u = true
 ·obtain ⟨hsm, z1, z2, z3, z4⟩ := z73 hs hwf hp0 hp1
  rw [hs] at cS
  have hl : (z7o u).length ≤ 99999990 := by
   have h5 := zgq hwf
   have h7 : (z7n u.port).length ≤ 20 := by
    unfold z7n
    split
    ·have := zzv u.port.toNat (by omega)
     rw [zb5] at this
     simp
     omega
    ·split <;> simp
   have h8 : (z5v u.user).length ≤ u.user.length + 1 := by unfold z5v; split <;> simp
   unfold z7o
   split
   ·simp only [List.length_append, List.length_cons]
    omega
   ·simp only [List.length_append, List.length_cons]
    omega
  have c1 := fun W hW => z4p hPar hF u hsm W hW
  have d1 := fun W hW => z8s u hsm hl W hW
  rw [z3x] at d1
  have c2 := fun W hW => z4o hPar hF u hsm W hW
  have d2 := fun W hW => z8r u hsm hl W hW
  rw [z8q] at d2
  have c3 := fun W => z2l (bs u.scheme) W
  have d3 := fun W => z65 (bs u.scheme) W
  have c4 := fun W => z4r u W
  have d4 := fun W => z66 u W
  have c5 := fun W => z4q u W
  have d5 := fun W => z67 u W
  have c6 := fun W => z4w u hsm W
  have d6 := fun W => z70 u W
  have hsu := z7v hsm
  have hEq := fun W => z8o (upU u) (upU u) hsu.wf hsu.wf W
  rw [z8n] at hEq
  generalize (if z4l u = true then bs (z32 u) else ⟨#[]⟩) = F at *
  generalize z4l u = vx at *
  generalize z5d (ls (bs u.scheme)) = sp at *
  generalize z5b u.scheme = ins at *
  generalize (if u.port = -1 then z5c u.scheme else u.port) = pt at *
  generalize (upU u).cells = D at *
  generalize u.cells = C at *
  generalize u.host.cells = H at *
  generalize bs u.scheme = S at *
  generalize bs u.user = U at *
  generalize bs u.host.name = N at *
  generalize bs u.rest = R at *
  clear hs hl z1 z2 z3 z4 hsm hsu hwf hp0 hp1 hw
  go_enter Tryz.func3, Tryz.ntmps3
  go_upto_region 3 with (first
   | (refine zax _ rfl 1 rfl _ _ rfl _ C (by exact rfl) (by exact rfl) ?_; intro W1 g1 hg1 hl1 hr1 hG1; have hbw := zav (Below.refl w.heap.size w) hG1 (Nat.le_refl _))
   | (refine z8d (by rfl) _ rfl g1 (by exact rfl) C hr1 hC.sz ?_)
   | (go_at_call 8; refine (cS _).mono ?_; rintro e wd0 ⟨rfl, hb5⟩
      replace hr1 : z8b wd0 g1 C := Row.below hr1 hb5 (Row.lt hr1)
      replace hbw := hbw.trans (hb5.mono hbw.size)
      clear hb5))
  clear cS
  replace hr1 : z8b wd0.drew g1 C := hr1
  replace hbw := hbw.drew
  refine wp_region_held_drew (S := fun W => z8b W g1 C) (by kernel_rfl) hr1 (fun _ => ?_)
  generalize wd0.drew = wd at *
  refine wpAnyH_take (i := 0) (v := .agg C) rfl (by kernel_rfl) (by kernel_rfl) (by kernel_rfl) (fun _ _ _ h => h) (z7t _ rfl (by rfl) g1 (by exact rfl) C (fun W hW => hW) hC.sz) hr1 ?_
  try simp only [Act.put, List.getElem_toArray, List.getElem_cons_zero, List.setIfInBounds_toArray, List.set_cons_zero, List.set_cons_succ]
  refine wpAnyH_take (i := 2) (v := .agg C) rfl (by kernel_rfl) (by kernel_rfl) (by kernel_rfl) (fun _ _ _ h => h) (z7t _ rfl (by rfl) g1 (by exact rfl) C (fun W hW => hW) hC.sz) hr1 ?_
  try simp only [Act.put, List.getElem_toArray, List.getElem_cons_zero, List.getElem_cons_succ, List.setIfInBounds_toArray, List.set_cons_zero, List.set_cons_succ]
  refine wpAnyH_ready (rs := [1]) (by kernel_rfl) (by simp) (AllReadyH.cons rfl (fun K hK => ?_) AllReadyH.nil)
  go_simp
  go_wp2_with fail
  refine (c1 _ (z38 HW.out hbw)).mono ?_
  rintro e wA ⟨rfl, hbA⟩
  replace hr1 : z8b wA g1 C := Row.below hr1 hbA (Row.lt hr1)
  replace hbw := hbw.trans (hbA.mono hbw.size)
  clear hbA
  refine hK.out _ _ hr1 (fun _ => ?_)
  clear hK K
  try simp only [Act.put, List.getElem_toArray, List.getElem_cons_zero, List.getElem_cons_succ, List.setIfInBounds_toArray, List.set_cons_zero, List.set_cons_succ]
  refine wpAnyH_ready (rs := [3]) (by kernel_rfl) (by simp) (AllReadyH.cons rfl (fun K hK => ?_) AllReadyH.nil)
  go_simp
  go_wp2_with fail
  refine (d1 _ (z38 HW.out hbw)).mono ?_
  rintro e wA ⟨rfl, hbA⟩
  replace hr1 : z8b wA g1 C := Row.below hr1 hbA (Row.lt hr1)
  replace hbw := hbw.trans (hbA.mono hbw.size)
  clear hbA
  refine hK.out _ _ hr1 (fun _ => ?_)
  clear hK K
  try simp only [Act.put, List.getElem_toArray, List.getElem_cons_zero, List.getElem_cons_succ, List.setIfInBounds_toArray, List.set_cons_zero, List.set_cons_succ]
  refine wpAnyH_take (i := 4) (v := .bool true) rfl (by kernel_rfl) (by kernel_rfl) (by kernel_rfl) (fun _ _ _ h => h) (Or.inl ⟨by rfl, fun W hW => by go_simp; try (with_reducible rfl)⟩) hr1 ?_
  try simp only [Act.put, List.getElem_toArray, List.getElem_cons_zero, List.getElem_cons_succ, List.setIfInBounds_toArray, List.set_cons_zero, List.set_cons_succ]
  refine wpAnyH_take (i := 5) (v := .bool true) rfl (by kernel_rfl) (by kernel_rfl) (by kernel_rfl) (fun _ _ _ h => h) (Or.inl ⟨by rfl, fun W hW => by go_simp; try (with_reducible rfl)⟩) hr1 ?_
  try simp only [Act.put, List.getElem_toArray, List.getElem_cons_zero, List.getElem_cons_succ, List.setIfInBounds_toArray, List.set_cons_zero, List.set_cons_succ]
  refine wpAnyH_take (i := 6) (v := .agg C) rfl (by kernel_rfl) (by kernel_rfl) (by kernel_rfl) (fun _ _ _ h => h) (z7t _ rfl (by rfl) g1 (by exact rfl) C (fun W hW => hW) hC.sz) hr1 ?_
  try simp only [Act.put, List.getElem_toArray, List.getElem_cons_zero, List.getElem_cons_succ, List.setIfInBounds_toArray, List.set_cons_zero, List.set_cons_succ]
  refine wpAnyH_take (i := 8) (v := .agg C) rfl (by kernel_rfl) (by kernel_rfl) (by kernel_rfl) (fun _ _ _ h => h) (z7t _ rfl (by rfl) g1 (by exact rfl) C (fun W hW => hW) hC.sz) hr1 ?_
  try simp only [Act.put, List.getElem_toArray, List.getElem_cons_zero, List.getElem_cons_succ, List.setIfInBounds_toArray, List.set_cons_zero, List.set_cons_succ]
  refine wpAnyH_ready (rs := [7]) (by kernel_rfl) (by simp) (AllReadyH.cons rfl (fun K hK => ?_) AllReadyH.nil)
  go_simp
  go_wp2_with fail
  refine (c2 _ (z38 HW.out hbw)).mono ?_
  rintro e wA ⟨rfl, hbA⟩
  replace hr1 : z8b wA g1 C := Row.below hr1 hbA (Row.lt hr1)
  replace hbw := hbw.trans (hbA.mono hbw.size)
  clear hbA
  refine hK.out _ _ hr1 (fun _ => ?_)
  clear hK K
  try simp only [Act.put, List.getElem_toArray, List.getElem_cons_zero, List.getElem_cons_succ, List.setIfInBounds_toArray, List.set_cons_zero, List.set_cons_succ]
  refine wpAnyH_ready (rs := [9]) (by kernel_rfl) (by simp) (AllReadyH.cons rfl (fun K hK => ?_) AllReadyH.nil)
  go_simp
  go_wp2_with fail
  refine (d2 _ (z38 HW.out hbw)).mono ?_
  rintro e wA ⟨rfl, hbA⟩
  replace hr1 : z8b wA g1 C := Row.below hr1 hbA (Row.lt hr1)
  replace hbw := hbw.trans (hbA.mono hbw.size)
  clear hbA
  refine hK.out _ _ hr1 (fun _ => ?_)
  clear hK K
  try simp only [Act.put, List.getElem_toArray, List.getElem_cons_zero, List.getElem_cons_succ, List.setIfInBounds_toArray, List.set_cons_zero, List.set_cons_succ]
  refine wpAnyH_take (i := 10) (v := .bool true) rfl (by kernel_rfl) (by kernel_rfl) (by kernel_rfl) (fun _ _ _ h => h) (Or.inl ⟨by rfl, fun W hW => by go_simp; try (with_reducible rfl)⟩) hr1 ?_
  try simp only [Act.put, List.getElem_toArray, List.getElem_cons_zero, List.getElem_cons_succ, List.setIfInBounds_toArray, List.set_cons_zero, List.set_cons_succ]
  refine wpAnyH_take (i := 11) (v := .bool true) rfl (by kernel_rfl) (by kernel_rfl) (by kernel_rfl) (fun _ _ _ h => h) (Or.inl ⟨by rfl, fun W hW => by go_simp; try (with_reducible rfl)⟩) hr1 ?_
  try simp only [Act.put, List.getElem_toArray, List.getElem_cons_zero, List.getElem_cons_succ, List.setIfInBounds_toArray, List.set_cons_zero, List.set_cons_succ]
  refine wpAnyH_take (i := 12) (v := .bool true) rfl (by kernel_rfl) (by kernel_rfl) (by kernel_rfl) (fun _ _ _ h => h) (Or.inl ⟨by rfl, fun W hW => by go_simp; try (with_reducible rfl)⟩) hr1 ?_
  try simp only [Act.put, List.getElem_toArray, List.getElem_cons_zero, List.getElem_cons_succ, List.setIfInBounds_toArray, List.set_cons_zero, List.set_cons_succ]
  refine wpAnyH_take (i := 13) (v := .pointer (some ⟨g1, 0, none⟩)) rfl (by kernel_rfl) (by kernel_rfl) (by kernel_rfl) (fun _ _ _ h => h) (Or.inl ⟨by rfl, fun W hW => by go_simp; try (with_reducible rfl)⟩) hr1 ?_
  try simp only [Act.put, List.getElem_toArray, List.getElem_cons_zero, List.getElem_cons_succ, List.setIfInBounds_toArray, List.set_cons_zero, List.set_cons_succ]
  refine wpAnyH_take (i := 14) (v := .string S) rfl (by kernel_rfl) (by kernel_rfl) (by kernel_rfl) (fun _ _ _ h => h) (Or.inl ⟨by rfl, fun W hW => by have h9 := (hC.cell hW).1; go_simp; try (with_reducible rfl)⟩) hr1 ?_
  try simp only [Act.put, List.getElem_toArray, List.getElem_cons_zero, List.getElem_cons_succ, List.setIfInBounds_toArray, List.set_cons_zero, List.set_cons_succ]
  refine wpAnyH_take (i := 16) (v := .pointer (some ⟨g1, 0, none⟩)) rfl (by kernel_rfl) (by kernel_rfl) (by kernel_rfl) (fun _ _ _ h => h) (Or.inl ⟨by rfl, fun W hW => by go_simp; try (with_reducible rfl)⟩) hr1 ?_
  try simp only [Act.put, List.getElem_toArray, List.getElem_cons_zero, List.getElem_cons_succ, List.setIfInBounds_toArray, List.set_cons_zero, List.set_cons_succ]
  refine wpAnyH_take (i := 17) (v := .string S) rfl (by kernel_rfl) (by kernel_rfl) (by kernel_rfl) (fun _ _ _ h => h) (Or.inl ⟨by rfl, fun W hW => by have h9 := (hC.cell hW).1; go_simp; try (with_reducible rfl)⟩) hr1 ?_
  try simp only [Act.put, List.getElem_toArray, List.getElem_cons_zero, List.getElem_cons_succ, List.setIfInBounds_toArray, List.set_cons_zero, List.set_cons_succ]
  refine wpAnyH_ready (rs := [15]) (by kernel_rfl) (by simp) (AllReadyH.cons rfl (fun K hK => ?_) AllReadyH.nil)
  go_simp
  go_wp2_with fail
  refine (c3 _).mono ?_
  rintro e wA ⟨rfl, rfl⟩
  refine hK.out _ _ hr1 (fun _ => ?_)
  clear hK K
  try simp only [Act.put, List.getElem_toArray, List.getElem_cons_zero, List.getElem_cons_succ, List.setIfInBounds_toArray, List.set_cons_zero, List.set_cons_succ]
  refine wpAnyH_ready (rs := [18]) (by kernel_rfl) (by simp) (AllReadyH.cons rfl (fun K hK => ?_) AllReadyH.nil)
  go_simp
  go_wp2_with fail
  refine (d3 _).mono ?_
  rintro e wA ⟨rfl, rfl⟩
  refine hK.out _ _ hr1 (fun _ => ?_)
  clear hK K
  try simp only [Act.put, List.getElem_toArray, List.getElem_cons_zero, List.getElem_cons_succ, List.setIfInBounds_toArray, List.set_cons_zero, List.set_cons_succ]
  refine wpAnyH_take (i := 19) (v := .bool true) rfl (by kernel_rfl) (by kernel_rfl) (by kernel_rfl) (fun _ _ _ h => h) (Or.inl ⟨by rfl, fun W hW => by go_simp; try (with_reducible rfl)⟩) hr1 ?_
  try simp only [Act.put, List.getElem_toArray, List.getElem_cons_zero, List.getElem_cons_succ, List.setIfInBounds_toArray, List.set_cons_zero, List.set_cons_succ]
  refine wpAnyH_take (i := 20) (v := .bool true) rfl (by kernel_rfl) (by kernel_rfl) (by kernel_rfl) (fun _ _ _ h => h) (Or.inl ⟨by rfl, fun W hW => by go_simp; try (with_reducible rfl)⟩) hr1 ?_
  try simp only [Act.put, List.getElem_toArray, List.getElem_cons_zero, List.getElem_cons_succ, List.setIfInBounds_toArray, List.set_cons_zero, List.set_cons_succ]
  refine wpAnyH_take (i := 21) (v := .bool true) rfl (by kernel_rfl) (by kernel_rfl) (by kernel_rfl) (fun _ _ _ h => h) (Or.inl ⟨by rfl, fun W hW => by go_simp; try (with_reducible rfl)⟩) hr1 ?_
  try simp only [Act.put, List.getElem_toArray, List.getElem_cons_zero, List.getElem_cons_succ, List.setIfInBounds_toArray, List.set_cons_zero, List.set_cons_succ]
  refine wpAnyH_take (i := 22) (v := .agg C) rfl (by kernel_rfl) (by kernel_rfl) (by kernel_rfl) (fun _ _ _ h => h) (z7t _ rfl (by rfl) g1 (by exact rfl) C (fun W hW => hW) hC.sz) hr1 ?_
  try simp only [Act.put, List.getElem_toArray, List.getElem_cons_zero, List.getElem_cons_succ, List.setIfInBounds_toArray, List.set_cons_zero, List.set_cons_succ]
  refine wpAnyH_take (i := 24) (v := .agg C) rfl (by kernel_rfl) (by kernel_rfl) (by kernel_rfl) (fun _ _ _ h => h) (z7t _ rfl (by rfl) g1 (by exact rfl) C (fun W hW => hW) hC.sz) hr1 ?_
  try simp only [Act.put, List.getElem_toArray, List.getElem_cons_zero, List.getElem_cons_succ, List.setIfInBounds_toArray, List.set_cons_zero, List.set_cons_succ]
  refine wpAnyH_ready (rs := [23]) (by kernel_rfl) (by simp) (AllReadyH.cons rfl (fun K hK => ?_) AllReadyH.nil)
  go_simp
  go_wp2_with fail
  refine (c4 _).mono ?_
  rintro e wA ⟨rfl, hbA⟩
  replace hr1 : z8b wA g1 C := Row.below hr1 hbA (Row.lt hr1)
  replace hbw := hbw.trans (hbA.mono hbw.size)
  clear hbA
  refine hK.out _ _ hr1 (fun _ => ?_)
  clear hK K
  try simp only [Act.put, List.getElem_toArray, List.getElem_cons_zero, List.getElem_cons_succ, List.setIfInBounds_toArray, List.set_cons_zero, List.set_cons_succ]
  refine wpAnyH_ready (rs := [25]) (by kernel_rfl) (by simp) (AllReadyH.cons rfl (fun K hK => ?_) AllReadyH.nil)
  go_simp
  go_wp2_with fail
  refine (d4 _).mono ?_
  rintro e wA ⟨rfl, hbA⟩
  replace hr1 : z8b wA g1 C := Row.below hr1 hbA (Row.lt hr1)
  replace hbw := hbw.trans (hbA.mono hbw.size)
  clear hbA
  refine hK.out _ _ hr1 (fun _ => ?_)
  clear hK K
  try simp only [Act.put, List.getElem_toArray, List.getElem_cons_zero, List.getElem_cons_succ, List.setIfInBounds_toArray, List.set_cons_zero, List.set_cons_succ]
  refine wpAnyH_take (i := 26) (v := .bool true) rfl (by kernel_rfl) (by kernel_rfl) (by kernel_rfl) (fun _ _ _ h => h) (Or.inl ⟨by rfl, fun W hW => by go_simp; try (with_reducible rfl)⟩) hr1 ?_
  try simp only [Act.put, List.getElem_toArray, List.getElem_cons_zero, List.getElem_cons_succ, List.setIfInBounds_toArray, List.set_cons_zero, List.set_cons_succ]
  refine wpAnyH_take (i := 27) (v := .bool true) rfl (by kernel_rfl) (by kernel_rfl) (by kernel_rfl) (fun _ _ _ h => h) (Or.inl ⟨by rfl, fun W hW => by go_simp; try (with_reducible rfl)⟩) hr1 ?_
  try simp only [Act.put, List.getElem_toArray, List.getElem_cons_zero, List.getElem_cons_succ, List.setIfInBounds_toArray, List.set_cons_zero, List.set_cons_succ]
  refine wpAnyH_take (i := 28) (v := .bool true) rfl (by kernel_rfl) (by kernel_rfl) (by kernel_rfl) (fun _ _ _ h => h) (Or.inl ⟨by rfl, fun W hW => by go_simp; try (with_reducible rfl)⟩) hr1 ?_
  try simp only [Act.put, List.getElem_toArray, List.getElem_cons_zero, List.getElem_cons_succ, List.setIfInBounds_toArray, List.set_cons_zero, List.set_cons_succ]
  refine wpAnyH_take (i := 29) (v := .agg C) rfl (by kernel_rfl) (by kernel_rfl) (by kernel_rfl) (fun _ _ _ h => h) (z7t _ rfl (by rfl) g1 (by exact rfl) C (fun W hW => hW) hC.sz) hr1 ?_
  try simp only [Act.put, List.getElem_toArray, List.getElem_cons_zero, List.getElem_cons_succ, List.setIfInBounds_toArray, List.set_cons_zero, List.set_cons_succ]
  refine wpAnyH_take (i := 31) (v := .agg C) rfl (by kernel_rfl) (by kernel_rfl) (by kernel_rfl) (fun _ _ _ h => h) (z7t _ rfl (by rfl) g1 (by exact rfl) C (fun W hW => hW) hC.sz) hr1 ?_
  try simp only [Act.put, List.getElem_toArray, List.getElem_cons_zero, List.getElem_cons_succ, List.setIfInBounds_toArray, List.set_cons_zero, List.set_cons_succ]
  refine wpAnyH_ready (rs := [30]) (by kernel_rfl) (by simp) (AllReadyH.cons rfl (fun K hK => ?_) AllReadyH.nil)
  go_simp
  go_wp2_with fail
  refine (c5 _).mono ?_
  rintro e wA ⟨rfl, hbA⟩
  replace hr1 : z8b wA g1 C := Row.below hr1 hbA (Row.lt hr1)
  replace hbw := hbw.trans (hbA.mono hbw.size)
  clear hbA
  refine hK.out _ _ hr1 (fun _ => ?_)
  clear hK K
  try simp only [Act.put, List.getElem_toArray, List.getElem_cons_zero, List.getElem_cons_succ, List.setIfInBounds_toArray, List.set_cons_zero, List.set_cons_succ]
  refine wpAnyH_ready (rs := [32]) (by kernel_rfl) (by simp) (AllReadyH.cons rfl (fun K hK => ?_) AllReadyH.nil)
  go_simp
  go_wp2_with fail
  refine (d5 _).mono ?_
  rintro e wA ⟨rfl, hbA⟩
  replace hr1 : z8b wA g1 C := Row.below hr1 hbA (Row.lt hr1)
  replace hbw := hbw.trans (hbA.mono hbw.size)
  clear hbA
  refine hK.out _ _ hr1 (fun _ => ?_)
  clear hK K
  try simp only [Act.put, List.getElem_toArray, List.getElem_cons_zero, List.getElem_cons_succ, List.setIfInBounds_toArray, List.set_cons_zero, List.set_cons_succ]
  refine wpAnyH_take (i := 33) (v := .bool true) rfl (by kernel_rfl) (by kernel_rfl) (by kernel_rfl) (fun _ _ _ h => h) (Or.inl ⟨by rfl, fun W hW => by go_simp; try (with_reducible rfl)⟩) hr1 ?_
  try simp only [Act.put, List.getElem_toArray, List.getElem_cons_zero, List.getElem_cons_succ, List.setIfInBounds_toArray, List.set_cons_zero, List.set_cons_succ]
  refine wpAnyH_take (i := 34) (v := .bool true) rfl (by kernel_rfl) (by kernel_rfl) (by kernel_rfl) (fun _ _ _ h => h) (Or.inl ⟨by rfl, fun W hW => by go_simp; try (with_reducible rfl)⟩) hr1 ?_
  try simp only [Act.put, List.getElem_toArray, List.getElem_cons_zero, List.getElem_cons_succ, List.setIfInBounds_toArray, List.set_cons_zero, List.set_cons_succ]
  refine wpAnyH_take (i := 35) (v := .bool true) rfl (by kernel_rfl) (by kernel_rfl) (by kernel_rfl) (fun _ _ _ h => h) (Or.inl ⟨by rfl, fun W hW => by go_simp; try (with_reducible rfl)⟩) hr1 ?_
  try simp only [Act.put, List.getElem_toArray, List.getElem_cons_zero, List.getElem_cons_succ, List.setIfInBounds_toArray, List.set_cons_zero, List.set_cons_succ]
  refine wpAnyH_take (i := 36) (v := .agg C) rfl (by kernel_rfl) (by kernel_rfl) (by kernel_rfl) (fun _ _ _ h => h) (z7t _ rfl (by rfl) g1 (by exact rfl) C (fun W hW => hW) hC.sz) hr1 ?_
  try simp only [Act.put, List.getElem_toArray, List.getElem_cons_zero, List.getElem_cons_succ, List.setIfInBounds_toArray, List.set_cons_zero, List.set_cons_succ]
  refine wpAnyH_take (i := 38) (v := .agg C) rfl (by kernel_rfl) (by kernel_rfl) (by kernel_rfl) (fun _ _ _ h => h) (z7t _ rfl (by rfl) g1 (by exact rfl) C (fun W hW => hW) hC.sz) hr1 ?_
  try simp only [Act.put, List.getElem_toArray, List.getElem_cons_zero, List.getElem_cons_succ, List.setIfInBounds_toArray, List.set_cons_zero, List.set_cons_succ]
  refine wpAnyH_ready (rs := [37]) (by kernel_rfl) (by simp) (AllReadyH.cons rfl (fun K hK => ?_) AllReadyH.nil)
  go_simp
  go_wp2_with fail
  refine (c6 _).mono ?_
  rintro e wA ⟨rfl, hbA⟩
  replace hr1 : z8b wA g1 C := Row.below hr1 hbA (Row.lt hr1)
  replace hbw := hbw.trans (hbA.mono hbw.size)
  clear hbA
  refine hK.out _ _ hr1 (fun _ => ?_)
  clear hK K
  try simp only [Act.put, List.getElem_toArray, List.getElem_cons_zero, List.getElem_cons_succ, List.setIfInBounds_toArray, List.set_cons_zero, List.set_cons_succ]
  refine wpAnyH_ready (rs := [39]) (by kernel_rfl) (by simp) (AllReadyH.cons rfl (fun K hK => ?_) AllReadyH.nil)
  go_simp
  go_wp2_with fail
  refine (d6 _).mono ?_
  rintro e wA ⟨rfl, hbA⟩
  replace hr1 : z8b wA g1 C := Row.below hr1 hbA (Row.lt hr1)
  replace hbw := hbw.trans (hbA.mono hbw.size)
  clear hbA
  refine hK.out _ _ hr1 (fun _ => ?_)
  clear hK K
  try simp only [Act.put, List.getElem_toArray, List.getElem_cons_zero, List.getElem_cons_succ, List.setIfInBounds_toArray, List.set_cons_zero, List.set_cons_succ]
  refine wpAnyH_take (i := 40) (v := .bool true) rfl (by kernel_rfl) (by kernel_rfl) (by kernel_rfl) (fun _ _ _ h => h) (Or.inl ⟨by rfl, fun W hW => by have h9 := hEq W; go_simp; try (with_reducible rfl)⟩) hr1 ?_
  try simp only [Act.put, List.getElem_toArray, List.getElem_cons_zero, List.getElem_cons_succ, List.setIfInBounds_toArray, List.set_cons_zero, List.set_cons_succ]
  refine wpAnyH_take (i := 41) (v := .bool true) rfl (by kernel_rfl) (by kernel_rfl) (by kernel_rfl) (fun _ _ _ h => h) (Or.inl ⟨by rfl, fun W hW => by go_simp; try (with_reducible rfl)⟩) hr1 ?_
  try simp only [Act.put, List.getElem_toArray, List.getElem_cons_zero, List.getElem_cons_succ, List.setIfInBounds_toArray, List.set_cons_zero, List.set_cons_succ]
  refine wpAnyH_take (i := 42) (v := .bool true) rfl (by kernel_rfl) (by kernel_rfl) (by kernel_rfl) (fun _ _ _ h => h) (Or.inl ⟨by rfl, fun W hW => by go_simp; try (with_reducible rfl)⟩) hr1 ?_
  try simp only [Act.put, List.getElem_toArray, List.getElem_cons_zero, List.getElem_cons_succ, List.setIfInBounds_toArray, List.set_cons_zero, List.set_cons_succ]
  refine wpAnyH_ready (rs := [43]) (by kernel_rfl) (by simp) (AllReadyH.cons rfl (fun K hK => ?_) AllReadyH.nil)
  go_simp
  go_wp2_with fail
  refine (cw _ (z38 HW.out hbw)).mono ?_
  rintro e wA ⟨rfl, hbA⟩
  replace hr1 : z8b wA g1 C := Row.below hr1 hbA (Row.lt hr1)
  replace hbw := hbw.trans (hbA.mono hbw.size)
  clear hbA
  refine hK.out _ _ hr1 (fun _ => ?_)
  clear hK K
  try simp only [Act.put, List.getElem_toArray, List.getElem_cons_zero, List.getElem_cons_succ, List.setIfInBounds_toArray, List.set_cons_zero, List.set_cons_succ]
  refine wpAnyH_take (i := 44) (v := .bool true) rfl (by kernel_rfl) (by kernel_rfl) (by kernel_rfl) (fun _ _ _ h => h) (Or.inl ⟨by rfl, fun W hW => by go_simp; try (with_reducible rfl)⟩) hr1 ?_
  try simp only [Act.put, List.getElem_toArray, List.getElem_cons_zero, List.getElem_cons_succ, List.setIfInBounds_toArray, List.set_cons_zero, List.set_cons_succ]
  refine wpAnyH_ready (rs := [45]) (by kernel_rfl) (by simp) (AllReadyH.cons rfl (fun K hK => ?_) AllReadyH.nil)
  go_simp
  refine hK.out _ _ hr1 (fun _ => ?_)
  clear hK K
  try simp only [Act.put, List.getElem_toArray, List.getElem_cons_zero, List.getElem_cons_succ, List.setIfInBounds_toArray, List.set_cons_zero, List.set_cons_succ]
  refine wpAnyH_done (by kernel_rfl) ?_ _
  go_wp2
  go_ret
  exact ⟨rfl, hbw⟩
 ·have hs' : z72 u = false := by simpa using hs
  rw [hs'] at cS
  generalize u.cells = C at *
  clear hs hs' hwf hp0 hp1 hw
  go_enter Tryz.func3, Tryz.ntmps3
  go_wp2_with (first
   | (refine zax _ rfl 1 rfl _ _ rfl _ C (by exact rfl) (by exact rfl) ?_; intro W1 g1 hg1 hl1 hr1 hG1; have hbw := zav (Below.refl w.heap.size w) hG1 (Nat.le_refl _))
   | (refine z8d (by rfl) _ rfl g1 (by exact rfl) C hr1 hC.sz ?_)
   | (go_at_call 8; refine (cS _).mono ?_; rintro e wd0 ⟨rfl, hb5⟩
      replace hbw := hbw.trans (hb5.mono hbw.size)
      clear hb5)
   | (go_at_call 9; refine (cw _ (z38 HW.out hbw)).mono ?_; rintro e wA ⟨rfl, hbA⟩
      replace hbw := hbw.trans (hbA.mono hbw.size)))
  go_ret
  exact ⟨rfl, hbw⟩
end

section
open Go.RowKit
theorem zrt (s : ByteArray) (hs : s.size ≤ 1000000000) (b : Nat) (hb : b ≤ 16) (w : World) :
 Calls Tryz.prog 148 #[.string s, .int .u64 b] w fun e w' => e = .returned (.bool ((ls s).all (fun c => decide (zqc c < b)))) ∧ w = w' := by
 go_enter Tryz.func148, Tryz.ntmps148
 go_wp2
 go_loop [8] (fun i => ∃ k : Nat, k ≤ s.size ∧ i = .int .i64 k ∧ Hid ((ls s).all (fun c => decide (zqc c < b)) = ((ls s).drop k).all (fun c => decide (zqc c < b)))) (fun i => s.size - (intOf i).toNat)
 case atStart => exact ⟨0, Nat.zero_le _, rfl, Lib.hid rfl⟩
 case round =>
  obtain ⟨k, hk, rfl, HA⟩ := hrel
  by_cases hlt : k < s.size
  ·have hd := zrc s[k]
   have HD : Hid (((ls s).drop k).all (fun c => decide (zqc c < b)) = (decide (zqc s[k] < b) && ((ls s).drop (k + 1)).all (fun c => decide (zqc c < b)))) := by
    show _ = _
    rw [zcc s k hlt, List.all_cons]
   by_cases hg : zqc s[k] < b
   ·have hge : decide ((b : Int) ≤ ((pd s[k] : Nat) : Int)) = false := decide_eq_false (by have := (zr1 s[k] b hb).2 hg; omega)
    have HN : Hid ((ls s).all (fun c => decide (zqc c < b)) = ((ls s).drop (k + 1)).all (fun c => decide (zqc c < b))) := by
     show _ = _
     rw [HA.out, HD.out, decide_eq_true hg, Bool.true_and]
    clear hg
    generalize ((pd s[k] : Nat) : Int) = d at *
    go_wp2_with (go_at_call 177; refine (hd _).mono ?_; rintro e w' ⟨rfl, rfl⟩)
    go_round
    case rel => exact ⟨k + 1, by omega, by go_num, HN⟩
    case measure => simp [intOf]; omega
   ·have hge : decide ((b : Int) ≤ ((pd s[k] : Nat) : Int)) = true := decide_eq_true (by have := mt (zr1 s[k] b hb).1 hg; omega)
    have HN : Hid ((ls s).all (fun c => decide (zqc c < b)) = false) := by
     show _ = _
     rw [HA.out, HD.out, decide_eq_false hg, Bool.false_and]
    clear hg
    generalize ((pd s[k] : Nat) : Int) = d at *
    go_wp2_with (go_at_call 177; refine (hd _).mono ?_; rintro e w' ⟨rfl, rfl⟩)
    go_ret
    exact ⟨zbx HN.out.symm, rfl⟩
  ·obtain rfl : k = s.size := by omega
   have HN : Hid ((ls s).all (fun c => decide (zqc c < b)) = true) := by
    show _ = _
    rw [HA.out, zcd]
    rfl
   go_wp2
   go_ret
   exact ⟨zbx HN.out.symm, rfl⟩
end

section
open Go.RowKit
theorem zru (s : ByteArray) (hs : s.size ≤ 1000000000) (w : World) :
 Calls Tryz.prog 111 #[.string s] w fun e w' => e = .returned (.bool (zqi (ls s))) ∧ w = w' := by
 have c1 := zre s hs w
 obtain ⟨T, hT⟩ : ∃ T, T = bs (zrv (ls s)) := ⟨_, rfl⟩
 rw [← hT] at c1
 have hTs : T.size ≤ 1000000000 := by rw [hT, zb5]; have := zrj (ls s); rw [zb4] at this; omega
 obtain ⟨i, hi, hib, hlast⟩ := zsj T
 have c2 := fun W => Any.strings_LastIndexByte Tryz.lays149 T 46 (by omega) W
 obtain ⟨x, hx⟩ : ∃ x, x = Lib.lastIndexByte T 46 := ⟨_, rfl⟩
 rw [← hx] at c2 hi
 obtain ⟨X, hX⟩ : ∃ X, X = T.extract i T.size := ⟨_, rfl⟩
 have hL : ls X = (ls T).drop i := by
  rw [hX, zb9]
  exact List.take_of_length_le (by rw [List.length_drop, zb4]; omega)
 have hXs : X.size ≤ 1000000000 := by rw [hX, ByteArray.size_extract]; omega
 have hV : zqi (ls s) = if zr5 (ls X) = true then ((ls X).drop 2).all (fun c => decide (zqc c < 16)) else (!(ls X).isEmpty && (ls X).all (fun c => decide (zqc c < 10))) := by
  rw [zsm, ← zsl, hL, ← hlast, hT, zb0]
 have c3 := zrd X
 have hx0 : -1 ≤ x := by omega
 have hx1 : x ≤ 1000000000 := by omega
 have hxi : x = (i : Int) - 1 := by omega
 subst hxi
 have hii : (i : Int) - 1 + 1 = (i : Int) := by omega
 have HX := Lib.hid hX
 clear hT hlast hL hx hi hX
 by_cases hh : zr5 (ls X) = true
 ·rw [if_pos hh] at hV
  rw [hh] at c3
  obtain ⟨b, r, e, _⟩ := (zr6 _).1 hh
  have h2 : 2 ≤ X.size := by rw [← zb4, e]; simp
  have c4 := zrt (X.extract 2 X.size) (by rw [ByteArray.size_extract]; omega) 16 (by omega)
  have e2 : ls (X.extract 2 X.size) = (ls X).drop 2 := by
   rw [zb9]
   exact List.take_of_length_le (by rw [List.length_drop, zb4]; exact Nat.le_refl _)
  rw [e2] at c4
  have HV := Lib.hid hV
  generalize ((ls X).drop 2).all (fun c => decide (zqc c < 16)) = q at *
  clear hV hh e e2
  go_enter Tryz.func111, Tryz.ntmps111
  go_wp2_with fail
  refine c1.mono ?_
  rintro e w' ⟨rfl, rfl⟩
  go_wp2_with fail
  refine (c2 _).mono ?_
  rintro e w' ⟨rfl, rfl⟩
  go_wp2_with fail
  rw [← HX.out]
  refine (c3 _).mono ?_
  rintro e w' ⟨rfl, rfl⟩
  go_wp2_with fail
  refine (c4 _).mono ?_
  rintro e w' ⟨rfl, rfl⟩
  go_wp2
  go_ret
  exact ⟨zbx HV.out.symm, rfl⟩
 ·rw [if_neg hh] at hV
  rw [Bool.not_eq_true] at hh
  rw [hh] at c3
  have hemp : (ls X).isEmpty = decide (X.size = 0) := z0p X
  by_cases h0 : X.size = 0
  ·have hE : X.toList = ([] : List UInt8) := by rw [zb3]; exact List.eq_nil_of_length_eq_zero (by rw [zb4]; exact h0)
   have HV : Hid (zqi (ls s) = false) := by show _ = _; rw [hV, hemp, decide_eq_true h0]; rfl
   clear hV hh hemp
   go_enter Tryz.func111, Tryz.ntmps111
   go_wp2_with fail
   refine c1.mono ?_
   rintro e w' ⟨rfl, rfl⟩
   go_wp2_with fail
   refine (c2 _).mono ?_
   rintro e w' ⟨rfl, rfl⟩
   go_wp2_with fail
   rw [← HX.out]
   refine (c3 _).mono ?_
   rintro e w' ⟨rfl, rfl⟩
   go_wp2
   go_ret
   exact ⟨zbx HV.out.symm, rfl⟩
  ·have hE : ¬ X.toList = ([] : List UInt8) := by rw [zb3]; exact zrl X (Nat.pos_of_ne_zero h0)
   have hE2 : X.toList.isEmpty = false := by rw [zb3, hemp, decide_eq_false h0]
   have c4 := zrt X hXs 10 (by omega)
   have HV : Hid (zqi (ls s) = (ls X).all (fun c => decide (zqc c < 10))) := by show _ = _; rw [hV, hemp, decide_eq_false h0]; rfl
   generalize (ls X).all (fun c => decide (zqc c < 10)) = q at *
   clear hV hh hemp
   go_enter Tryz.func111, Tryz.ntmps111
   go_wp2_with fail
   refine c1.mono ?_
   rintro e w' ⟨rfl, rfl⟩
   go_wp2_with fail
   refine (c2 _).mono ?_
   rintro e w' ⟨rfl, rfl⟩
   go_wp2_with fail
   rw [← HX.out]
   refine (c3 _).mono ?_
   rintro e w' ⟨rfl, rfl⟩
   go_wp2_with fail
   refine (c4 _).mono ?_
   rintro e w' ⟨rfl, rfl⟩
   go_wp2
   go_ret
   exact ⟨zbx HV.out.symm, rfl⟩
end

section
open Go.RowKit
theorem zu3 (w : World) {ops : Array Oper} {rest : List Oper} {o : Oper} {a : Act} {Q : Exit → Act → World → Prop}
 (hg : o.guard = none) (l c : Operand) (hop : o.op = Op.makeSlice 72 l c) (n : Int) (hl : a.eval l = .int .i64 0) (hc : a.eval c = .int .i64 n) (h0 : 0 ≤ n) (hn : n ≤ 4000000000)
 (h : ∀ v' w', w'.ownsRow w.heap.size 5 1 v' 0 [] → Below w.heap.size w w' → wpList Tryz.prog ops Q rest (a.put o.dst v') w') : wpList Tryz.prog ops Q (o :: rest) a w := by
 refine wpList_plain hg fun K hK' => ?_
 obtain ⟨i, hi, hz0, hz1, hz2⟩ := info_parts z17
 have hrun := run_make (P := Tryz.prog) w 72 5 i (.int .u8 0) z14 hi hz0 .i64 .i64 0 n (by omega) (by omega) (by rw [hz2]; omega) (by omega)
 rw [hz1, Nat.mul_one] at hrun
 have hm : madeCells (Value.int .u8 0).cells n.toNat = zcg n.toNat := zch _
 rw [hm] at hrun
 have := h (.slice (some ⟨w.heap.size, 0, none⟩) 0 n.toNat) (w.alloc (.cells (zcg n.toNat) 5))
  ⟨rfl, .inr ⟨w.heap.size, n.toNat, zcg n.toNat, rfl, Nat.le_refl _, by show (w.heap.push _)[w.heap.size]? = _; simp, Nat.zero_le _, by unfold maxLen; omega, by simp [zcg], by simp⟩⟩
  ((Below.refl _ _).alloc (Nat.le_refl _) _)
 unfold Oper.wp
 simp [execOp, hop, hl, hc, hrun, Result.andThen]
 exact hK' _ _ this
end

section
open Go.RowKit
theorem zrq (B n u : Nat) (hu : u < 18446744073709551616) (sv : Value) (l : List UInt8) (w : World) (hp : Pow w) (hown : w.ownsRow B 5 1 sv n (l.map bv)) (hB : B ≤ w.heap.size) (hn : n ≤ 1000000000) :
 Calls Tryz.prog 98 #[sv, .int .u64 u, .int .i64 10] w fun e w' => ∃ v', e = .returned v' ∧ w'.ownsRow B 5 1 v' (n + (Lib.decDigits u).length) ((l ++ Lib.decDigits u).map bv) ∧ Below B w w' := by
 have c1 := Any.internal_strconv_AppendUint_10 Tryz.laysM288 B n u hu sv (l.map bv) w hown hB (by omega) hp
 have HM : Hid (∀ m : List UInt8, l.map bv ++ Lib.byteCells m = (l ++ m).map bv) := by
  show ∀ m : List UInt8, _ = _
  intro m
  rw [List.map_append]
  rfl
 clear hown hp
 go_enter Tryz.func98, Tryz.ntmps98
 go_wp2_with fail
 refine c1.mono ?_
 rintro e w' ⟨v', rfl, h1, h2, _⟩
 rw [HM.out] at h1
 go_wp2
 go_ret
 exact ⟨_, rfl, h1, h2⟩
set_option maxRecDepth 20000 in
set_option maxHeartbeats 4000000 in
theorem zrr (v : Int) (hv0 : 0 ≤ v) (hv1 : v < 4294967296) (w : World) (hp : Pow w) :
 Calls Tryz.prog 72 #[.int .u32 v] w fun e w' => e = .returned (.string (bs (zqn v.toNat))) ∧ Below w.heap.size w w' := by
 obtain ⟨i5, hi5, hz0, hz1, hz2⟩ := info_parts z17
 have hF : zso v.toNat 4 = zqn v.toNat := zsp _ (by omega)
 have HF := Lib.hid hF
 clear hF
 go_enter Tryz.func72, Tryz.ntmps72
 go_wp2_with (refine zu3 _ rfl _ _ rfl 15 rfl rfl (by decide) (by decide) ?_; intro v0 w0 hown0 hb0)
 go_loopg [3, 7] 4 (fun g t i wr => ∃ k : Nat, k ≤ 4 ∧ g = 4 - k ∧ i = .int .i64 k ∧ wr.ownsRow w.heap.size 5 1 t (zso v.toNat k).length ((zso v.toNat k).map bv) ∧ Below w.heap.size w wr)
 case atStart => exact ⟨0, by omega, rfl, rfl, hown0, hb0⟩
 case round =>
  obtain ⟨k, hk, hg, rfl, hown, hb⟩ := hrel
  have HG := Lib.hid hg
  clear hg
  have hlen := zsr v.toNat k
  by_cases hk4 : k < 4
  ·obtain ⟨K, hK⟩ : ∃ K, K = 8 * (3 - k) := ⟨_, rfl⟩
   have hKK : (8 : Int) * (3 - (k : Int)) = (K : Int) := by omega
   have hK32 : K ≤ 32 := by omega
   obtain ⟨r, hr⟩ : ∃ r : Nat, r = v.toNat / 2 ^ K := ⟨_, rfl⟩
   have hrv : v / 2 ^ K = (r : Int) := by
    rw [hr, Int.natCast_ediv, Int.natCast_pow, show ((v.toNat : Nat) : Int) = v by omega]
    rfl
   have HR := Lib.hid hrv
   have hrb : r < 4294967296 := by
    rw [hr]
    exact Nat.lt_of_le_of_lt (Nat.div_le_self _ _) (by omega)
   obtain ⟨u, hu⟩ : ∃ u, u = r % 256 := ⟨_, rfl⟩
   have hand : bits .and .u64 (r : Int) 255 = (u : Int) := by
    have := u64_and_nat r 255 (by omega) (by omega)
    rw [show ((255 : Nat) : Int) = 255 from rfl] at this
    rw [this, hu, show 255 = 2 ^ 8 - 1 from rfl, Nat.and_two_pow_sub_one_eq_mod]
   have hwr : IntKind.u64.wrap (r : Int) = (r : Int) := by rw [IntKind.wrap_u64]; omega
   have hdec : Lib.decDigits (v.toNat / 256 ^ (3 - k) % 256) = Lib.decDigits u := by
    rw [hu, hr, hK, Nat.pow_mul]
   have hub : u < 256 := by omega
   have hdl := zsq u hub
   by_cases h0 : k = 0
   ·have HN : Hid (zso v.toNat (k + 1) = zso v.toNat k ++ Lib.decDigits u) := by
     show _ = _
     rw [zso, hdec, if_pos h0]
     rfl
    have hd : decide ((0 : Int) < (k : Int)) = false := decide_eq_false (by omega)
    have hdN : decide (0 < k) = false := decide_eq_false (by omega)
    have HU := Lib.hid (show u < 18446744073709551616 by omega)
    clear hK hr hrv hu hdec h0
    go_wp2_with (refine za2 _ rfl _ _ _ _ rfl (by kernel_rfl) _ K hK32 (by exact rfl) (by exact rfl) _ HR.out ?_)
    refine (zrq w.heap.size _ u HU.out _ _ _ (zu7 hp hb) hown hb.size (by omega)).mono ?_
    rintro e w1 ⟨v1, rfl, hown1, hb1⟩
    replace hb1 := hb.trans hb1
    have hl : (zso v.toNat (k + 1)).length = (zso v.toNat k).length + (Lib.decDigits u).length := by rw [HN.out, List.length_append]
    rw [← HN.out, ← hl] at hown1
    go_wp2
    go_roundg (4 - (k + 1))
    case rel => exact ⟨k + 1, by omega, rfl, by go_num, hown1, hb1⟩
    case measure => rw [HG.out]; omega
   ·have HN : Hid (zso v.toNat (k + 1) = (zso v.toNat k ++ [46]) ++ Lib.decDigits u) := by
     show _ = _
     rw [zso, hdec, if_neg h0, List.append_assoc]
    have hd : decide ((0 : Int) < (k : Int)) = true := decide_eq_true (by omega)
    have hdN : decide (0 < k) = true := decide_eq_true (by omega)
    have HU := Lib.hid (show u < 18446744073709551616 by omega)
    clear hK hr hrv hu hdec h0
    go_wp2_with (at_builtin; refine zcq wr rfl _ _ 72 rfl w.heap.size 5 i5 (.int .u8 0) 1 z14 hi5 hz0 hz1 hz2 rfl _ (by exact rfl) _ _ _ (by exact rfl) hown (by exact rfl) (by unfold maxLen; omega) (by omega) hb (Nat.le_refl _) ?_; intro v2 w2 hown2 hb2 hgr)
    rw [show (zso v.toNat k).map bv ++ [Value.int .u8 46] = (zso v.toNat k ++ [46]).map bv by rw [List.map_append]; rfl] at hown2
    go_wp2_with fail
    rw [HR.out, hwr, hand]
    refine (zrq w.heap.size _ u HU.out _ _ _ (zu7 hp hb2) hown2 hb2.size (by omega)).mono ?_
    rintro e w1 ⟨v1, rfl, hown1, hb1⟩
    replace hb1 := hb2.trans hb1
    have hl : (zso v.toNat (k + 1)).length = (zso v.toNat k).length + 1 + (Lib.decDigits u).length := by rw [HN.out, List.length_append, List.length_append]; rfl
    rw [← HN.out, ← hl] at hown1
    go_wp2
    go_roundg (4 - (k + 1))
    case rel => exact ⟨k + 1, by omega, rfl, by go_num, hown1, hb1⟩
    case measure => rw [HG.out]; omega
  ·obtain rfl : k = 4 := by omega
   have hconv := z19 wr _ _ _ _ hown
   rw [HF.out] at hconv
   go_wp2
   go_ret
   exact ⟨rfl, hb⟩
theorem zrs (s : ByteArray) (w : World) (hs : s.size ≤ 1000000000) (hp : Pow w) :
 Calls Tryz.prog 175 #[.string s] w fun e w' => e = .returned (.tuple #[.int .u32 (aV (zqm (ls s))), .bool (aK (zqm (ls s)))]) ∧ Below w.heap.size w w' := by
 have c1 := zrp s hs w
 cases hq : pnL (ls s) with
 | none =>
   have HE : Hid (zqm (ls s) = none) := by show _ = _; rw [zsn, hq]
   rw [hq, show aV (none : Option Nat) = 0 from rfl, show aK (none : Option Nat) = false from rfl] at c1
   clear hq
   go_enter Tryz.func175, Tryz.ntmps175
   go_wp2_with fail
   refine c1.mono ?_
   rintro e w' ⟨rfl, rfl⟩
   go_wp2
   go_ret2
   rw [HE.out]
   exact ⟨rfl, Below.refl _ _⟩
 | some v =>
   have hv := zsf hq
   have c2 := zrr (v : Int) (by omega) (by omega) w hp
   rw [show ((v : Int)).toNat = v from rfl] at c2
   rw [hq, show aV (some v) = (v : Int) from rfl, show aK (some v) = true from rfl] at c1
   by_cases hf : zqn v = ls s
   ·have HE : Hid (zqm (ls s) = some v) := by show _ = _; rw [zsn, hq]; exact if_pos hf
    rw [hf, zb1] at c2
    clear hq hf
    go_enter Tryz.func175, Tryz.ntmps175
    go_wp2_with fail
    refine c1.mono ?_
    rintro e w' ⟨rfl, hw⟩
    subst hw
    go_wp2_with fail
    refine c2.mono ?_
    rintro e w2 ⟨rfl, hb⟩
    go_wp2
    go_ret2
    rw [HE.out]
    exact ⟨rfl, hb⟩
   ·have HE : Hid (zqm (ls s) = none) := by show _ = _; rw [zsn, hq]; exact if_neg hf
    obtain ⟨X, hX⟩ : ∃ X, X = bs (zqn v) := ⟨_, rfl⟩
    have hne : ¬ X.toList = s.toList := by
     rw [zb3, zb3, hX, zb0]
     exact hf
    have hn2 : (X.toList == s.toList) = false := beq_eq_false_iff_ne.2 hne
    have hn3 : (!X.toList == s.toList) = true := by rw [hn2]; rfl
    rw [← hX] at c2
    clear hq hf hX
    go_enter Tryz.func175, Tryz.ntmps175
    go_wp2_with fail
    refine c1.mono ?_
    rintro e w' ⟨rfl, hw⟩
    subst hw
    go_wp2_with fail
    refine c2.mono ?_
    rintro e w2 ⟨rfl, hb⟩
    go_wp2
    go_ret2
    rw [HE.out]
    exact ⟨rfl, hb⟩
end

end Go.Proofs.YtekaljeicfjkjaaGreatDoor
