/-
  Contract of the reference's Encode of a valid superblock (written by tools/gen-Sup2.py).
-/
import Derived.Test.YtdahnkampjkelaaSup1
namespace Go.Proofs.Ytdahnkampjkelaa
open Go.RowKit

theorem own_low {w : World} {b b' e n : Nat} {v : Value} {xs : List Value} (h : w.ownsRow b e 1 v n xs) (hb : b' ≤ b) : w.ownsRow b' e 1 v n xs := by
  refine ⟨h.1, ?_⟩
  rcases h.2 with h0 | ⟨g, cap, cur, h1, h2, h3⟩
  · exact .inl h0
  · exact .inr ⟨g, cap, cur, h1, by omega, h3⟩
def supLen : Value → Nat
  | .slice _ n _ => n
  | _ => 0
theorem nv_ofNat (k : Nat) : nv (BitVec.ofNat 32 k) = ((k % 4294967296 : Nat) : Int) := by unfold nv; rw [BitVec.toNat_ofNat]
/-- The cells of a superblock in a box. -/
def SupAt (w : World) (b : Nat) (g a e n s : Int) : Prop := w.cell? ⟨b, 0, none⟩ = some (.int .u64 g) ∧ w.cell? ⟨b, 1, none⟩ = some (.int .i64 a) ∧ w.cell? ⟨b, 2, none⟩ = some (.int .u32 e) ∧ w.cell? ⟨b, 3, none⟩ = some (.int .i64 n) ∧ w.cell? ⟨b, 4, none⟩ = some (.int .u32 s)
theorem SupAt.box (w : World) (g a e n s : Int) (t : TypeId) : SupAt (w.alloc (.cells #[.int .u64 g, .int .i64 a, .int .u32 e, .int .i64 n, .int .u32 s] t)) w.heap.size g a e n s := by
  have h := heap_alloc_last w (.cells #[.int .u64 g, .int .i64 a, .int .u32 e, .int .i64 n, .int .u32 s] t)
  refine ⟨?_, ?_, ?_, ?_, ?_⟩ <;> (rw [cell_of_row _ _ _ _ t (0, 0) h]; rfl)
theorem SupAt.below {w w' : World} {b B : Nat} {g a e n s : Int} (h : SupAt w b g a e n s) (hb : Below B w w') (hB : b < B) : SupAt w' b g a e n s :=
  ⟨(hb.cell (p := ⟨b, 0, none⟩) hB).trans h.1, (hb.cell (p := ⟨b, 1, none⟩) hB).trans h.2.1, (hb.cell (p := ⟨b, 2, none⟩) hB).trans h.2.2.1, (hb.cell (p := ⟨b, 3, none⟩) hB).trans h.2.2.2.1, (hb.cell (p := ⟨b, 4, none⟩) hB).trans h.2.2.2.2⟩

set_option maxHeartbeats 4000000 in
theorem refEncS_yes (Z : Sup) (h : Z.ok) (hgl : Z.g < 18446744073709551616) (w : World) :
    Calls Try.prog 10 #[Z.val] w fun r w' => (∃ v, r = .returned (.tuple #[v, .int .i64 0]) ∧ w'.ownsRow w.heap.size 5 1 v 64 (Z.enc.map bv)) ∧ Below w.heap.size w w' := by
  obtain ⟨i5, hi5, hz0, hz1, hz2⟩ := info_parts infoU8
  have h' := (sok_iff Z).1 h
  obtain ⟨lo, hlo⟩ : ∃ x, x = BitVec.ofNat 32 Z.g := ⟨_, rfl⟩
  obtain ⟨hi, hhi⟩ : ∃ x, x = BitVec.ofNat 32 (Z.g / 4294967296) := ⟨_, rfl⟩
  obtain ⟨nn, hnn⟩ : ∃ x, x = BitVec.ofNat 32 Z.n.toNat := ⟨_, rfl⟩
  have HE : Hid (Z.enc = Z.body ++ fixedB (crcSum Z.body)) := by show _ = _; rfl
  have HD : Hid (Z.body = ([72, 83, 84, 83, 1, UInt8.ofNat Z.a.toNat] ++ fixedB lo ++ fixedB hi ++ fixedB Z.e ++ fixedB nn ++ fixedB Z.s) ++ List.replicate 34 0) := by
    show _ = _
    rw [hlo, hhi, hnn]; simp [Sup.body, Sup.hd]
  obtain ⟨L, hL⟩ : ∃ x, x = Z.body := ⟨_, rfl⟩
  have HLL : Hid (L.length = 60) := by show _ = _; rw [hL, Z.body_length]
  rw [← hL] at HE HD
  obtain ⟨g, a, e, n, s⟩ := Z
  have hv := refValidS_any g a (nv e) n (nv s)
  unfold Sup.ok at h
  unfold Sup.val
  simp only at h h' hv hlo hhi hnn HD hgl ⊢
  rw [h'] at hv
  obtain ⟨G, hG⟩ : ∃ G : Int, G = (g : Int) := ⟨_, rfl⟩
  rw [← hG] at hv ⊢
  have hglo : G % 4294967296 = nv lo := by rw [hlo, nv_ofNat]; omega
  have hghi : G / 4294967296 = nv hi := by rw [hhi, nv_ofNat]; omega
  have hnnv : n % 4294967296 = nv nn := by rw [hnn, nv_ofNat]; omega
  have hG0 : 0 ≤ G := by omega
  have hG1 : G < 18446744073709551616 := by omega
  obtain ⟨av, hav⟩ : ∃ av, a % 256 = av := ⟨_, rfl⟩
  have hav0 : 0 ≤ av := by omega
  have hav1 : av < 256 := by omega
  have HSIX := Lib.hid (show [Value.int .u8 72, .int .u8 83, .int .u8 84, .int .u8 83, .int .u8 1, .int .u8 av] = ([72, 83, 84, 83, 1, UInt8.ofNat a.toNat] : List UInt8).map bv by
    have : (((UInt8.ofNat a.toNat).toNat : Nat) : Int) = av := by rw [UInt8.toNat_ofNat']; omega
    simp only [List.map_cons, List.map_nil, bv_eq, this]; rfl)
  obtain ⟨S6, hS6⟩ : ∃ x : List UInt8, x = [72, 83, 84, 83, 1, UInt8.ofNat a.toNat] := ⟨_, rfl⟩
  rw [← hS6] at HSIX HD
  have HBOX := Lib.hid (SupAt.box w G a (nv e) n (nv s) 25)
  have hW : w.heap.size < (w.alloc (.cells #[.int .u64 G, .int .i64 a, .int .u32 (nv e), .int .i64 n, .int .u32 (nv s)] 25)).heap.size := by simp
  have HB0 := Lib.hid ((Below.refl w.heap.size w).alloc (Nat.le_refl _) (.cells #[.int .u64 G, .int .i64 a, .int .u32 (nv e), .int .i64 n, .int .u32 (nv s)] 25))
  clear hlo hhi hnn hL h h' hG hgl hS6
  go_enter Try.func10, Try.ntmps10
  go_wp2_with fail
  refine (hv _).mono ?_
  obtain ⟨W0, hW0⟩ : ∃ x, x = (w.alloc (.cells #[.int .u64 G, .int .i64 a, .int .u32 (nv e), .int .i64 n, .int .u32 (nv s)] 25)) := ⟨_, rfl⟩
  rw [← hW0] at HBOX hW HB0 ⊢
  clear hW0
  rintro r w1 ⟨rfl, hb1⟩
  clear hv
  obtain ⟨c0, c1, c2, c3, c4⟩ := HBOX.out.below hb1 hW
  have hownA := own_low (own_laid w1 5 [.int .u8 72, .int .u8 83, .int .u8 84, .int .u8 83, .int .u8 1, .int .u8 av] 6 rfl (by unfold maxLen; omega)) hb1.size
  have hbA : Below W0.heap.size W0 (w1.alloc (.cells #[.int .u8 72, .int .u8 83, .int .u8 84, .int .u8 83, .int .u8 1, .int .u8 av] 5)) := hb1.alloc hb1.size _
  obtain ⟨e0, e1, e2, e3, e4⟩ := HBOX.out.below hbA hW
  go_wp2_with fail
  refine (fixed_any lo _).mono ?_
  rintro r wA' ⟨⟨g0, rfl, hf⟩, hbx⟩
  have hownA' := own_below hownA hbx
  rw [HSIX.out] at hownA'
  have hbA' := hbA.trans (hbx.mono hbA.size)
  obtain ⟨d0, d1, d2, d3, d4⟩ := HBOX.out.below hbA' hW
  clear hownA hbA hbx
  go_wp2_with (at_builtin; refine wpList_app_has _ rfl _ _ 26 rfl W0.heap.size 5 i5 (.int .u8 0) 1 tyBs hi5 hz0 hz1 hz2 rfl _ _ _ (by exact rfl) hownA' _ 4 4 _ ((fixedB lo).map bv) (by exact rfl) (by intro e; cases e) hf (one_bytes _) (by unfold maxLen; omega) (by omega) hbA' (Nat.le_refl _) ?_; intro vB wB hownB hbB _; rw [← List.map_append] at hownB; obtain ⟨e0, e1, e2, e3, e4⟩ := HBOX.out.below hbB hW; clear hownA' hbA' hf)
  refine (fixed_any hi _).mono ?_
  rintro r wB' ⟨⟨g1, rfl, hf⟩, hbx⟩
  have hownB' := own_below hownB hbx
  have hbB' := hbB.trans (hbx.mono hbB.size)
  obtain ⟨d0, d1, d2, d3, d4⟩ := HBOX.out.below hbB' hW
  clear hownB hbB hbx
  go_wp2_with (at_builtin; refine wpList_app_has _ rfl _ _ 26 rfl W0.heap.size 5 i5 (.int .u8 0) 1 tyBs hi5 hz0 hz1 hz2 rfl _ _ _ (by exact rfl) hownB' _ 4 4 _ ((fixedB hi).map bv) (by exact rfl) (by intro e; cases e) hf (one_bytes _) (by unfold maxLen; omega) (by omega) hbB' (Nat.le_refl _) ?_; intro vC wC hownC hbC _; rw [← List.map_append] at hownC; obtain ⟨e0, e1, e2, e3, e4⟩ := HBOX.out.below hbC hW; clear hownB' hbB' hf)
  refine (fixed_any e _).mono ?_
  rintro r wC' ⟨⟨g2, rfl, hf⟩, hbx⟩
  have hownC' := own_below hownC hbx
  have hbC' := hbC.trans (hbx.mono hbC.size)
  obtain ⟨d0, d1, d2, d3, d4⟩ := HBOX.out.below hbC' hW
  clear hownC hbC hbx
  go_wp2_with (at_builtin; refine wpList_app_has _ rfl _ _ 26 rfl W0.heap.size 5 i5 (.int .u8 0) 1 tyBs hi5 hz0 hz1 hz2 rfl _ _ _ (by exact rfl) hownC' _ 4 4 _ ((fixedB e).map bv) (by exact rfl) (by intro e; cases e) hf (one_bytes _) (by unfold maxLen; omega) (by omega) hbC' (Nat.le_refl _) ?_; intro vD wD hownD hbD _; rw [← List.map_append] at hownD; obtain ⟨e0, e1, e2, e3, e4⟩ := HBOX.out.below hbD hW; clear hownC' hbC' hf)
  refine (fixed_any nn _).mono ?_
  rintro r wD' ⟨⟨g3, rfl, hf⟩, hbx⟩
  have hownD' := own_below hownD hbx
  have hbD' := hbD.trans (hbx.mono hbD.size)
  obtain ⟨d0, d1, d2, d3, d4⟩ := HBOX.out.below hbD' hW
  clear hownD hbD hbx
  go_wp2_with (at_builtin; refine wpList_app_has _ rfl _ _ 26 rfl W0.heap.size 5 i5 (.int .u8 0) 1 tyBs hi5 hz0 hz1 hz2 rfl _ _ _ (by exact rfl) hownD' _ 4 4 _ ((fixedB nn).map bv) (by exact rfl) (by intro e; cases e) hf (one_bytes _) (by unfold maxLen; omega) (by omega) hbD' (Nat.le_refl _) ?_; intro vE wE hownE hbE _; rw [← List.map_append] at hownE; obtain ⟨e0, e1, e2, e3, e4⟩ := HBOX.out.below hbE hW; clear hownD' hbD' hf)
  refine (fixed_any s _).mono ?_
  rintro r wE' ⟨⟨g4, rfl, hf⟩, hbx⟩
  have hownE' := own_below hownE hbx
  have hbE' := hbE.trans (hbx.mono hbE.size)
  obtain ⟨d0, d1, d2, d3, d4⟩ := HBOX.out.below hbE' hW
  clear hownE hbE hbx
  go_wp2_with (at_builtin; refine wpList_app_has _ rfl _ _ 26 rfl W0.heap.size 5 i5 (.int .u8 0) 1 tyBs hi5 hz0 hz1 hz2 rfl _ _ _ (by exact rfl) hownE' _ 4 4 _ ((fixedB s).map bv) (by exact rfl) (by intro e; cases e) hf (one_bytes _) (by unfold maxLen; omega) (by omega) hbE' (Nat.le_refl _) ?_; intro vF wF hownF hbF _; rw [← List.map_append] at hownF; obtain ⟨e0, e1, e2, e3, e4⟩ := HBOX.out.below hbF hW; clear hownE' hbE' hf)
  rw [show S6 ++ fixedB lo ++ fixedB hi ++ fixedB e ++ fixedB nn ++ fixedB s = S6 ++ fixedB lo ++ fixedB hi ++ fixedB e ++ fixedB nn ++ fixedB s ++ List.replicate 0 0 by simp] at hownF
  obtain ⟨H, hH⟩ : ∃ x, x = S6 ++ fixedB lo ++ fixedB hi ++ fixedB e ++ fixedB nn ++ fixedB s := ⟨_, rfl⟩
  rw [← hH] at hownF HD
  clear hH HSIX e0 e1 e2 e3 e4 c0 c1 c2 c3 c4
  try go_frame
  go_loopw [4] (fun v wr => ∃ k : Nat, k ≤ 34 ∧ wr.ownsRow W0.heap.size 5 1 v (26 + k) ((H ++ List.replicate k 0).map bv) ∧ Below W0.heap.size W0 wr) (fun v _ => 60 - supLen v)
  case atStart => exact ⟨0, Nat.zero_le _, hownF, hbF⟩
  case round =>
    obtain ⟨k, hk, hown, hb⟩ := hrel
    obtain ⟨A2, q2, ev2, h2, _⟩ := Has.of_own hown
    subst ev2
    by_cases hlt : k < 34
    · have hd : decide (26 + (k : Int) < 60) = true := by simp; omega
      have hone := own_laid wr 5 [.int .u8 0] 1 rfl (by unfold maxLen; omega)
      go_wp2_with (at_builtin; refine wpList_app_one _ rfl _ _ 26 (by exact rfl) W0.heap.size 5 i5 (.int .u8 0) 1 tyBs hi5 hz0 hz1 hz2 rfl _ (by exact rfl) _ _ _ (by exact rfl) hown (by exact rfl) (by unfold maxLen; omega) (by omega) hb (Nat.le_refl _) ?_; intro v' w' hown' hb' _)
      go_roundw
      case rel =>
        refine ⟨k + 1, by omega, ?_, hb'⟩
        rw [List.replicate_succ', ← List.append_assoc, List.map_append]
        exact hown'
      case measure =>
        obtain ⟨A3, c3, ev3, _, _⟩ := Has.of_own hown'
        subst ev3
        simp [supLen]
        omega
    · obtain rfl : k = 34 := by omega
      rw [← HD.out] at hown h2
      go_wp2_with fail
      refine (refSum_any A2 60 q2 _ L wr h2 (by omega)).mono ?_
      rintro r w' ⟨rfl, rfl⟩
      go_wp2_with fail
      refine (fixed_any (crcSum L) _).mono ?_
      rintro r wG ⟨⟨g3, rfl, hf⟩, hbG⟩
      replace hown := own_below hown hbG
      replace hbG := hb.trans (hbG.mono hb.size)
      clear hb h2
      go_wp2_with (at_builtin; refine wpList_app_has _ rfl _ _ 26 rfl W0.heap.size 5 i5 (.int .u8 0) 1 tyBs hi5 hz0 hz1 hz2 rfl _ _ _ (by exact rfl) hown _ 4 4 _ ((fixedB (crcSum L)).map bv) (by exact rfl) (by intro e; cases e) hf (one_bytes _) (by unfold maxLen; omega) (by omega) hbG (Nat.le_refl _) ?_; intro vH wH hownH hbH _; rw [← List.map_append, ← HE.out] at hownH)
      go_ret2
      exact ⟨⟨vH, rfl, own_low hownH HB0.out.size⟩, HB0.out.trans (hbH.mono HB0.out.size)⟩

end Go.Proofs.Ytdahnkampjkelaa
