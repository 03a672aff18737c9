/-
  Contracts of Encode, of package frame and of its reference.
-/
import Derived.Test.YtfnoahbhccgbgaaFr1
namespace Go.Proofs.Ytfnoahbhccgbgaa
open Go.RowKit

theorem two_bv (n : Nat) (hn : n ≤ 1024) : ([UInt8.ofNat n, UInt8.ofNat (n / 256)]).map bv = [.int .u8 ((n : Int) % 256), .int .u8 ((n : Int) / 256)] := by
  simp only [List.map_cons, List.map_nil, bv_eq, UInt8.toNat_ofNat']
  rw [show (((n % 2 ^ 8 : Nat)) : Int) = (n : Int) % 256 by omega, show (((n / 256 % 2 ^ 8 : Nat)) : Int) = (n : Int) / 256 by omega]

set_option maxHeartbeats 400000 in
theorem encode_no (e q : W32) (A : Option Addr) (len cap : Nat) (w : World) (hlen : 1024 < len) (hl : len ≤ 1000000000) :
    Calls Try.prog 10 #[.int .u32 (nv e), .int .u32 (nv q), .slice A len cap] w fun r w' => r = .returned (.tuple #[.slice none 0 0, .int .i64 3]) ∧ w = w' := by
  have hlen' : (1024 : Int) < (len : Int) := by omega
  go_enter Try.func10, Try.ntmps10
  go_wp2
  go_ret2
  exact ⟨rfl, rfl⟩
set_option maxHeartbeats 400000 in
theorem refEncode_no (e q : W32) (A : Option Addr) (len cap : Nat) (w : World) (hlen : 1024 < len) (hl : len ≤ 1000000000) :
    Calls Try.prog 11 #[.int .u32 (nv e), .int .u32 (nv q), .slice A len cap] w fun r w' => r = .returned (.tuple #[.slice none 0 0, .int .i64 3]) ∧ w = w' := by
  have hlen' : (1024 : Int) < (len : Int) := by omega
  go_enter Try.func11, Try.ntmps11
  go_wp2
  go_ret2
  exact ⟨rfl, rfl⟩

set_option maxHeartbeats 2000000 in
theorem encode_yes (e q : W32) (A : Option Addr) (len cap B : Nat) (l : List UInt8) (w : World) (hA : Has w B A len (l.map bv)) (hcap : A = none → cap = 0) (hlen : len ≤ 1024) (hB : B ≤ w.heap.size) :
    Calls Try.prog 10 #[.int .u32 (nv e), .int .u32 (nv q), .slice A len cap] w fun r w' =>
      (∃ v, r = .returned (.tuple #[v, .int .i64 0]) ∧ w'.ownsRow w.heap.size 5 1 v (14 + len) ((frameB e q l).map bv)) ∧ Below w.heap.size w w' := by
  obtain ⟨i5, hi5, hz0, hz1, hz2⟩ := info_parts infoU8
  have HL : Hid (l.length = len) := by show _ = _; simpa using hA.1
  have hlen' : ¬ (1024 : Int) < (len : Int) := by omega
  have hsz := size_any (len : Int) w
  rw [szB_yes (by omega) (by omega)] at hsz
  have htwo := two_bv len hlen
  obtain ⟨v0, hv0⟩ : ∃ v, (len : Int) % 256 = v := ⟨_, rfl⟩
  obtain ⟨v1, hv1⟩ : ∃ v, (len : Int) / 256 = v := ⟨_, rfl⟩
  have hv10 : 0 ≤ v1 := by omega
  have hv11 : v1 < 256 := by omega
  rw [hv0, hv1] at htwo
  have HT := Lib.hid htwo
  have HB := Lib.hid (show [UInt8.ofNat len, UInt8.ofNat (len / 256)] ++ fixedB e ++ fixedB q ++ l = bodyB e q l by unfold bodyB hdB; rw [HL.out])
  have HA := Lib.hid hA
  obtain ⟨N, hN⟩ : ∃ N, N = 10 + len := ⟨_, rfl⟩
  have HN := Lib.hid hN
  have hNb : N ≤ 1034 := by omega
  clear htwo hA hN
  go_enter Try.func10, Try.ntmps10
  go_wp2_with fail
  refine hsz.mono ?_
  rintro r w' ⟨rfl, rfl⟩
  go_wp2_with (first
    | (at_make; refine wpList_make_room _ rfl _ _ rfl (14 + (len : Int)) (by exact rfl) (by exact rfl) (by omega) (by omega) ?_; intro vA wA hownA hbA; clear hsz)
    | (at_builtin; refine wpList_app_has _ rfl _ _ 23 rfl w.heap.size 5 i5 (.int .u8 0) 1 tyBs hi5 hz0 hz1 hz2 rfl _ _ _ (by exact rfl) (hownA.alloc _) _ 2 2 _ [.int .u8 v0, .int .u8 v1] (by exact rfl) (by intro e; cases e) (Has.two wA _ _ _) (by rw [← HT.out]; exact one_bytes _) (by unfold maxLen; omega) (by omega) (hbA.alloc hbA.size _) (Nat.le_refl _) ?_; intro vB wB hownB hbB _))
  refine (frNum_any w.heap.size 2 vB [UInt8.ofNat len, UInt8.ofNat (len / 256)] e wB (by rw [HT.out]; exact hownB) hbB.size (by omega)).mono ?_
  rintro r wC ⟨⟨vC, rfl, hownC⟩, hbC⟩
  replace hbC := hbB.trans hbC
  clear hownA hbA hownB hbB
  go_wp2_with fail
  refine (frNum_any w.heap.size 6 vC _ q wC hownC hbC.size (by omega)).mono ?_
  rintro r wD ⟨⟨vD, rfl, hownD⟩, hbD⟩
  replace hbD := hbC.trans hbD
  clear hownC hbC
  go_wp2_with (at_builtin; refine wpList_app_has _ rfl _ _ 23 rfl w.heap.size 5 i5 (.int .u8 0) 1 tyBs hi5 hz0 hz1 hz2 rfl _ _ _ (by exact rfl) hownD A len cap _ (l.map bv) (by exact rfl) hcap (HA.out.below' hbD hB) (one_bytes l) (by unfold maxLen; omega) (by omega) hbD (Nat.le_refl _) ?_; intro vE wE hownE hbE _; rw [← List.map_append, HB.out, show 6 + 4 + len = N from HN.out.symm] at hownE; clear hownD hbD; obtain ⟨A1, c1, rfl, h1, _⟩ := Has.of_own hownE)
  refine (sum_any A1 N c1 _ (bodyB e q l) wE h1 (by omega)).mono ?_
  rintro r w' ⟨rfl, rfl⟩
  go_wp2_with fail
  refine (frNum_any w.heap.size N _ (bodyB e q l) (crcSum (bodyB e q l)) wE hownE hbE.size (by omega)).mono ?_
  rintro r wF ⟨⟨vF, rfl, hownF⟩, hbF⟩
  replace hbF := hbE.trans hbF
  go_wp2
  go_ret2
  refine ⟨⟨vF, rfl, ?_⟩, hbF⟩
  rw [show 14 + len = N + 4 by have := HN.out; omega]
  exact hownF

set_option maxHeartbeats 2000000 in
theorem refEncode_yes (e q : W32) (A : Option Addr) (len cap B : Nat) (l : List UInt8) (w : World) (hA : Has w B A len (l.map bv)) (hcap : A = none → cap = 0) (hlen : len ≤ 1024) (hB : B ≤ w.heap.size) :
    Calls Try.prog 11 #[.int .u32 (nv e), .int .u32 (nv q), .slice A len cap] w fun r w' =>
      (∃ v, r = .returned (.tuple #[v, .int .i64 0]) ∧ w'.ownsRow w.heap.size 5 1 v (14 + len) ((frameB e q l).map bv)) ∧ Below w.heap.size w w' := by
  obtain ⟨i5, hi5, hz0, hz1, hz2⟩ := info_parts infoU8
  have HL : Hid (l.length = len) := by show _ = _; simpa using hA.1
  have hlen' : ¬ (1024 : Int) < (len : Int) := by omega
  have htwo := two_bv len hlen
  obtain ⟨v0, hv0⟩ : ∃ v, (len : Int) % 256 = v := ⟨_, rfl⟩
  obtain ⟨v1, hv1⟩ : ∃ v, (len : Int) / 256 = v := ⟨_, rfl⟩
  have hv10 : 0 ≤ v1 := by omega
  have hv11 : v1 < 256 := by omega
  have hvd : Int.tdiv (len : Int) 256 = v1 := by rw [Int.tdiv_eq_ediv_of_nonneg (by omega)]; exact hv1
  rw [hv0, hv1] at htwo
  have HT := Lib.hid htwo
  have HB := Lib.hid (show [UInt8.ofNat len, UInt8.ofNat (len / 256)] ++ fixedB e ++ fixedB q ++ l = bodyB e q l by unfold bodyB hdB; rw [HL.out])
  have HA := Lib.hid hA
  obtain ⟨N, hN⟩ : ∃ N, N = 10 + len := ⟨_, rfl⟩
  have HN := Lib.hid hN
  have hNb : N ≤ 1034 := by omega
  have hown0 := own_laid w 5 [.int .u8 v0, .int .u8 v1] 2 rfl (by unfold maxLen; omega)
  have hb0 := (Below.refl w.heap.size w).alloc (Nat.le_refl _) (.cells #[.int .u8 v0, .int .u8 v1] 5)
  clear htwo hA hN
  go_enter Try.func11, Try.ntmps11
  go_wp2_with fail
  refine (fixed_any e _).mono ?_
  rintro r wB ⟨⟨g, rfl, hf⟩, hbB⟩
  have hownB := own_below hown0 hbB
  replace hbB := hb0.trans (hbB.mono hb0.size)
  clear hown0 hb0
  go_wp2_with (at_builtin; refine wpList_app_has _ rfl _ _ 23 rfl w.heap.size 5 i5 (.int .u8 0) 1 tyBs hi5 hz0 hz1 hz2 rfl _ _ _ (by exact rfl) hownB _ 4 4 _ ((fixedB e).map bv) (by exact rfl) (by intro e; cases e) hf (one_bytes _) (by unfold maxLen; omega) (by omega) hbB (Nat.le_refl _) ?_; intro vC wC hownC hbC _; rw [show [Value.int .u8 v0, .int .u8 v1] = _ from HT.out.symm, ← List.map_append] at hownC; clear hownB hbB hf)
  refine (fixed_any q _).mono ?_
  rintro r wD ⟨⟨g2, rfl, hf⟩, hbD⟩
  replace hownC := own_below hownC hbD
  replace hbD := hbC.trans (hbD.mono hbC.size)
  clear hbC
  go_wp2_with (first
    | (at_builtin; refine wpList_app_has _ rfl _ _ 23 rfl w.heap.size 5 i5 (.int .u8 0) 1 tyBs hi5 hz0 hz1 hz2 rfl _ _ _ (by exact rfl) hownC _ 4 4 _ ((fixedB q).map bv) (by exact rfl) (by intro e; cases e) hf (one_bytes _) (by unfold maxLen; omega) (by omega) hbD (Nat.le_refl _) ?_; intro vE wE hownE hbE _; rw [← List.map_append] at hownE; clear hownC hbD hf)
    | (at_builtin; refine wpList_app_has _ rfl _ _ 23 rfl w.heap.size 5 i5 (.int .u8 0) 1 tyBs hi5 hz0 hz1 hz2 rfl _ _ _ (by exact rfl) hownE A len cap _ (l.map bv) (by exact rfl) hcap (HA.out.below' hbE hB) (one_bytes l) (by unfold maxLen; omega) (by omega) hbE (Nat.le_refl _) ?_; intro vF wF hownF hbF _; rw [← List.map_append, HB.out, show 2 + 4 + 4 + len = N from HN.out.symm] at hownF; clear hownE hbE; obtain ⟨A1, c1, rfl, h1, _⟩ := Has.of_own hownF))
  refine (refSum_any A1 N c1 _ (bodyB e q l) wF h1 (by omega)).mono ?_
  rintro r w' ⟨rfl, rfl⟩
  go_wp2_with fail
  refine (fixed_any (crcSum (bodyB e q l)) _).mono ?_
  rintro r wG ⟨⟨g3, rfl, hf⟩, hbG⟩
  replace hownF := own_below hownF hbG
  replace hbG := hbF.trans (hbG.mono hbF.size)
  clear hbF h1
  go_wp2_with (at_builtin; refine wpList_app_has _ rfl _ _ 23 rfl w.heap.size 5 i5 (.int .u8 0) 1 tyBs hi5 hz0 hz1 hz2 rfl _ _ _ (by exact rfl) hownF _ 4 4 _ ((fixedB (crcSum (bodyB e q l))).map bv) (by exact rfl) (by intro e; cases e) hf (one_bytes _) (by unfold maxLen; omega) (by omega) hbG (Nat.le_refl _) ?_; intro vH wH hownH hbH _; rw [← List.map_append] at hownH)
  go_ret2
  refine ⟨⟨vH, rfl, ?_⟩, hbH⟩
  rw [show 14 + len = N + 4 by have := HN.out; omega]
  exact hownH

end Go.Proofs.Ytfnoahbhccgbgaa
