/-
The reference's Valid and Format of layer 14; the walk of HostFormatMatchesSpec (written by tools/gen-HrF.py).
The reference's text of a URL (written by tools/gen-UrTx.py).
-/
import Derived.Test.YtekaljeicfjkjaaGreatDoorB16
import Derived.Test.YtekaljeicfjkjaaGreatDoorB23
import Derived.Test.YtekaljeicfjkjaaGreatDoorB09
import Derived.Test.YtekaljeicfjkjaaGreatDoorB32
import Derived.Test.YtekaljeicfjkjaaGreatDoorB27
import Derived.Test.YtekaljeicfjkjaaGreatDoorB26
import Derived.Test.YtekaljeicfjkjaaGreatDoorB07
namespace Go.Proofs.YtekaljeicfjkjaaGreatDoor
section
open Go.RowKit Go.Shelf
theorem zi6 {W : World} {B : Nat} (h : Row W B 24 #[.int .u16 0, .int .u16 0, .int .u16 0, .int .u16 0, .int .u16 0, .int .u16 0, .int .u16 0, .int .u16 0]) : W.cell? ⟨B, 0, none⟩ = some (.int .u16 0) ∧ W.cell? ⟨B, 1, none⟩ = some (.int .u16 0) ∧ W.cell? ⟨B, 2, none⟩ = some (.int .u16 0) ∧ W.cell? ⟨B, 3, none⟩ = some (.int .u16 0) ∧ W.cell? ⟨B, 4, none⟩ = some (.int .u16 0) ∧ W.cell? ⟨B, 5, none⟩ = some (.int .u16 0) ∧ W.cell? ⟨B, 6, none⟩ = some (.int .u16 0) ∧ W.cell? ⟨B, 7, none⟩ = some (.int .u16 0) :=
 ⟨Row.cell h (k := 0) (by simp), Row.cell h (k := 1) (by simp), Row.cell h (k := 2) (by simp), Row.cell h (k := 3) (by simp), Row.cell h (k := 4) (by simp), Row.cell h (k := 5) (by simp), Row.cell h (k := 6) (by simp), Row.cell h (k := 7) (by simp)⟩
set_option maxRecDepth 20000 in
set_option maxHeartbeats 4000000 in
theorem zi7 : zfq 45 := by
 intro h w hw hn
 obtain ⟨k, n, v, g⟩ := h
 obtain ⟨hv4, hg8, hg⟩ := hw
 simp only at hv4 hg8 hg hn
 obtain ⟨x0, x1, x2, x3, x4, x5, x6, x7, rfl⟩ := zf2 g hg8
 have eV : (Hv.mk k n v [x0, x1, x2, x3, x4, x5, x6, x7]).val = .agg #[.int .i64 k, .string (bs n), .int .u32 (v : Nat), .int .u16 (x0 : Nat), .int .u16 (x1 : Nat), .int .u16 (x2 : Nat), .int .u16 (x3 : Nat), .int .u16 (x4 : Nat), .int .u16 (x5 : Nat), .int .u16 (x6 : Nat), .int .u16 (x7 : Nat)] := rfl
 rw [eV]
 have heq := zk0 [x0, x1, x2, x3, x4, x5, x6, x7] z8 rfl rfl
 rw [show av [x0, x1, x2, x3, x4, x5, x6, x7] = #[.int .u16 (x0 : Nat), .int .u16 (x1 : Nat), .int .u16 (x2 : Nat), .int .u16 (x3 : Nat), .int .u16 (x4 : Nat), .int .u16 (x5 : Nat), .int .u16 (x6 : Nat), .int .u16 (x7 : Nat)] from rfl, show av z8 = #[.int .u16 0, .int .u16 0, .int .u16 0, .int .u16 0, .int .u16 0, .int .u16 0, .int .u16 0, .int .u16 0] from rfl] at heq
 have c1 := fun W => zjs (bs n) W (by rw [zb5]; exact hn)
 rw [zb0] at c1
 obtain ⟨N, hN⟩ : ∃ N, N = bs n := ⟨_, rfl⟩
 have hNe : (N.toList == ([] : List UInt8)) = n.isEmpty := by rw [hN, zb3, zb0]; cases n <;> rfl
 have hNe' : N.toList.isEmpty = n.isEmpty := by rw [hN, zb3, zb0]
 have hv' : (((v : Nat) : Int) == 0) = (v == 0) := by rw [Bool.eq_iff_iff]; simp
 have hv'' : decide (((v : Nat) : Int) = 0) = (v == 0) := by rw [Bool.eq_iff_iff]; simp
 have HV0 : Hid (∀ K : Int, zhv ⟨K, n, v, [x0, x1, x2, x3, x4, x5, x6, x7]⟩ = if K = 1 then vnL n && v == 0 && decide ([x0, x1, x2, x3, x4, x5, x6, x7] = z8) else if K = 2 then n.isEmpty && decide ([x0, x1, x2, x3, x4, x5, x6, x7] = z8) else if K = 3 then n.isEmpty && v == 0 else false) := Lib.hid fun K => by
  unfold zhv
  rw [show ([x0, x1, x2, x3, x4, x5, x6, x7] == z8) = decide ([x0, x1, x2, x3, x4, x5, x6, x7] = z8) by rw [Bool.eq_iff_iff, beq_iff_eq, decide_eq_true_iff]]
 simp only [← hN] at c1 ⊢
 generalize decide ([x0, x1, x2, x3, x4, x5, x6, x7] = z8) = q3 at *
 generalize (v == 0) = q2 at *
 generalize vnL n = q1 at *
 generalize n.isEmpty = q4 at *
 clear hN eV hn hg8 hv4
 have HG := Lib.hid hg
 clear hg HG
 by_cases k1 : k = 1
 ·subst k1
  have HV : Hid (zhv ⟨1, n, v, [x0, x1, x2, x3, x4, x5, x6, x7]⟩ = (q1 && q2 && q3)) := by
   show _ = _
   rw [HV0.out, if_pos rfl]
  clear HV0
  cases q1 with
  | false =>
    go_enter Tryz.func45, Tryz.ntmps45
    go_upto_region 2 with fail
    obtain ⟨W1, hW1⟩ : ∃ x, x = (w.alloc (.cells #[.int .i64 1, .string N, .int .u32 (v : Nat), .int .u16 (x0 : Nat), .int .u16 (x1 : Nat), .int .u16 (x2 : Nat), .int .u16 (x3 : Nat), .int .u16 (x4 : Nat), .int .u16 (x5 : Nat), .int .u16 (x6 : Nat), .int .u16 (x7 : Nat)] 26)).alloc (.cells #[.int .u16 0, .int .u16 0, .int .u16 0, .int .u16 0, .int .u16 0, .int .u16 0, .int .u16 0, .int .u16 0] 24) := ⟨_, rfl⟩
    have hb1 : Below w.heap.size w W1 := by rw [hW1]; exact ((Below.refl _ _).alloc (Nat.le_refl _) _).alloc (by simp) _
    have hr1 : zgv W1 w.heap.size #[.int .i64 1, .string N, .int .u32 (v : Nat), .int .u16 (x0 : Nat), .int .u16 (x1 : Nat), .int .u16 (x2 : Nat), .int .u16 (x3 : Nat), .int .u16 (x4 : Nat), .int .u16 (x5 : Nat), .int .u16 (x6 : Nat), .int .u16 (x7 : Nat)] := by rw [hW1]; exact Row.grown0 (zat w _ _) (World.grownBy_alloc _ _ none)
    have hz1 : Row W1 (w.heap.size + 1) 24 #[.int .u16 0, .int .u16 0, .int .u16 0, .int .u16 0, .int .u16 0, .int .u16 0, .int .u16 0, .int .u16 0] := by
     rw [hW1]
     have := zat (w.alloc (.cells #[.int .i64 1, .string N, .int .u32 (v : Nat), .int .u16 (x0 : Nat), .int .u16 (x1 : Nat), .int .u16 (x2 : Nat), .int .u16 (x3 : Nat), .int .u16 (x4 : Nat), .int .u16 (x5 : Nat), .int .u16 (x6 : Nat), .int .u16 (x7 : Nat)] 26)) #[.int .u16 0, .int .u16 0, .int .u16 0, .int .u16 0, .int .u16 0, .int .u16 0, .int .u16 0, .int .u16 0] 24
     rw [World.size_alloc] at this
     exact this
    rw [← hW1]
    clear hW1
    obtain ⟨p0, p1, p2, p3, p4, p5, p6, p7, p8, p9, p10⟩ := zfr hr1
    obtain ⟨z0, z1, z2, z3, z4, z5, z6, z7⟩ := zi6 hz1
    go_wp2_with (go_at_call 68; refine (c1 _).mono ?_; rintro e w2 ⟨rfl, hb2⟩; replace hr1 := Row.below hr1 hb2 hr1.lt; replace hz1 := Row.below hz1 hb2 hz1.lt; replace hb1 := hb1.trans (hb2.mono hb1.size); clear c1 hb2 p0 p1 p2 p3 p4 p5 p6 p7 p8 p9 p10 z0 z1 z2 z3 z4 z5 z6 z7; obtain ⟨p0, p1, p2, p3, p4, p5, p6, p7, p8, p9, p10⟩ := zfr hr1; obtain ⟨z0, z1, z2, z3, z4, z5, z6, z7⟩ := zi6 hz1)
    go_wp2
    go_ret
    exact ⟨zbx (by rw [HV.out]; simp), hb1⟩
  | true =>
    cases q2 with
    | false =>
      go_enter Tryz.func45, Tryz.ntmps45
      go_upto_region 2 with fail
      obtain ⟨W1, hW1⟩ : ∃ x, x = (w.alloc (.cells #[.int .i64 1, .string N, .int .u32 (v : Nat), .int .u16 (x0 : Nat), .int .u16 (x1 : Nat), .int .u16 (x2 : Nat), .int .u16 (x3 : Nat), .int .u16 (x4 : Nat), .int .u16 (x5 : Nat), .int .u16 (x6 : Nat), .int .u16 (x7 : Nat)] 26)).alloc (.cells #[.int .u16 0, .int .u16 0, .int .u16 0, .int .u16 0, .int .u16 0, .int .u16 0, .int .u16 0, .int .u16 0] 24) := ⟨_, rfl⟩
      have hb1 : Below w.heap.size w W1 := by rw [hW1]; exact ((Below.refl _ _).alloc (Nat.le_refl _) _).alloc (by simp) _
      have hr1 : zgv W1 w.heap.size #[.int .i64 1, .string N, .int .u32 (v : Nat), .int .u16 (x0 : Nat), .int .u16 (x1 : Nat), .int .u16 (x2 : Nat), .int .u16 (x3 : Nat), .int .u16 (x4 : Nat), .int .u16 (x5 : Nat), .int .u16 (x6 : Nat), .int .u16 (x7 : Nat)] := by rw [hW1]; exact Row.grown0 (zat w _ _) (World.grownBy_alloc _ _ none)
      have hz1 : Row W1 (w.heap.size + 1) 24 #[.int .u16 0, .int .u16 0, .int .u16 0, .int .u16 0, .int .u16 0, .int .u16 0, .int .u16 0, .int .u16 0] := by
       rw [hW1]
       have := zat (w.alloc (.cells #[.int .i64 1, .string N, .int .u32 (v : Nat), .int .u16 (x0 : Nat), .int .u16 (x1 : Nat), .int .u16 (x2 : Nat), .int .u16 (x3 : Nat), .int .u16 (x4 : Nat), .int .u16 (x5 : Nat), .int .u16 (x6 : Nat), .int .u16 (x7 : Nat)] 26)) #[.int .u16 0, .int .u16 0, .int .u16 0, .int .u16 0, .int .u16 0, .int .u16 0, .int .u16 0, .int .u16 0] 24
       rw [World.size_alloc] at this
       exact this
      rw [← hW1]
      clear hW1
      obtain ⟨p0, p1, p2, p3, p4, p5, p6, p7, p8, p9, p10⟩ := zfr hr1
      obtain ⟨z0, z1, z2, z3, z4, z5, z6, z7⟩ := zi6 hz1
      go_wp2_with (go_at_call 68; refine (c1 _).mono ?_; rintro e w2 ⟨rfl, hb2⟩; replace hr1 := Row.below hr1 hb2 hr1.lt; replace hz1 := Row.below hz1 hb2 hz1.lt; replace hb1 := hb1.trans (hb2.mono hb1.size); clear c1 hb2 p0 p1 p2 p3 p4 p5 p6 p7 p8 p9 p10 z0 z1 z2 z3 z4 z5 z6 z7; obtain ⟨p0, p1, p2, p3, p4, p5, p6, p7, p8, p9, p10⟩ := zfr hr1; obtain ⟨z0, z1, z2, z3, z4, z5, z6, z7⟩ := zi6 hz1)
      go_wp2
      go_ret
      exact ⟨zbx (by rw [HV.out]; simp), hb1⟩
    | true =>
      go_enter Tryz.func45, Tryz.ntmps45
      go_upto_region 2 with fail
      obtain ⟨W1, hW1⟩ : ∃ x, x = (w.alloc (.cells #[.int .i64 1, .string N, .int .u32 (v : Nat), .int .u16 (x0 : Nat), .int .u16 (x1 : Nat), .int .u16 (x2 : Nat), .int .u16 (x3 : Nat), .int .u16 (x4 : Nat), .int .u16 (x5 : Nat), .int .u16 (x6 : Nat), .int .u16 (x7 : Nat)] 26)).alloc (.cells #[.int .u16 0, .int .u16 0, .int .u16 0, .int .u16 0, .int .u16 0, .int .u16 0, .int .u16 0, .int .u16 0] 24) := ⟨_, rfl⟩
      have hb1 : Below w.heap.size w W1 := by rw [hW1]; exact ((Below.refl _ _).alloc (Nat.le_refl _) _).alloc (by simp) _
      have hr1 : zgv W1 w.heap.size #[.int .i64 1, .string N, .int .u32 (v : Nat), .int .u16 (x0 : Nat), .int .u16 (x1 : Nat), .int .u16 (x2 : Nat), .int .u16 (x3 : Nat), .int .u16 (x4 : Nat), .int .u16 (x5 : Nat), .int .u16 (x6 : Nat), .int .u16 (x7 : Nat)] := by rw [hW1]; exact Row.grown0 (zat w _ _) (World.grownBy_alloc _ _ none)
      have hz1 : Row W1 (w.heap.size + 1) 24 #[.int .u16 0, .int .u16 0, .int .u16 0, .int .u16 0, .int .u16 0, .int .u16 0, .int .u16 0, .int .u16 0] := by
       rw [hW1]
       have := zat (w.alloc (.cells #[.int .i64 1, .string N, .int .u32 (v : Nat), .int .u16 (x0 : Nat), .int .u16 (x1 : Nat), .int .u16 (x2 : Nat), .int .u16 (x3 : Nat), .int .u16 (x4 : Nat), .int .u16 (x5 : Nat), .int .u16 (x6 : Nat), .int .u16 (x7 : Nat)] 26)) #[.int .u16 0, .int .u16 0, .int .u16 0, .int .u16 0, .int .u16 0, .int .u16 0, .int .u16 0, .int .u16 0] 24
       rw [World.size_alloc] at this
       exact this
      rw [← hW1]
      clear hW1
      obtain ⟨p0, p1, p2, p3, p4, p5, p6, p7, p8, p9, p10⟩ := zfr hr1
      obtain ⟨z0, z1, z2, z3, z4, z5, z6, z7⟩ := zi6 hz1
      go_wp2_with (go_at_call 68; refine (c1 _).mono ?_; rintro e w2 ⟨rfl, hb2⟩; replace hr1 := Row.below hr1 hb2 hr1.lt; replace hz1 := Row.below hz1 hb2 hz1.lt; replace hb1 := hb1.trans (hb2.mono hb1.size); clear c1 hb2 p0 p1 p2 p3 p4 p5 p6 p7 p8 p9 p10 z0 z1 z2 z3 z4 z5 z6 z7; obtain ⟨p0, p1, p2, p3, p4, p5, p6, p7, p8, p9, p10⟩ := zfr hr1; obtain ⟨z0, z1, z2, z3, z4, z5, z6, z7⟩ := zi6 hz1)
      go_wp2
      go_ret
      exact ⟨zbx (by rw [HV.out]; simp), hb1⟩
 ·by_cases k2 : k = 2
  ·subst k2
   have HV : Hid (zhv ⟨2, n, v, [x0, x1, x2, x3, x4, x5, x6, x7]⟩ = (q4 && q3)) := by
    show _ = _
    rw [HV0.out, if_neg (by decide), if_pos rfl]
   clear HV0
   clear c1 k1
   cases q4 with
   | false =>
     go_enter Tryz.func45, Tryz.ntmps45
     go_upto_region 2 with fail
     obtain ⟨W1, hW1⟩ : ∃ x, x = (w.alloc (.cells #[.int .i64 2, .string N, .int .u32 (v : Nat), .int .u16 (x0 : Nat), .int .u16 (x1 : Nat), .int .u16 (x2 : Nat), .int .u16 (x3 : Nat), .int .u16 (x4 : Nat), .int .u16 (x5 : Nat), .int .u16 (x6 : Nat), .int .u16 (x7 : Nat)] 26)).alloc (.cells #[.int .u16 0, .int .u16 0, .int .u16 0, .int .u16 0, .int .u16 0, .int .u16 0, .int .u16 0, .int .u16 0] 24) := ⟨_, rfl⟩
     have hb1 : Below w.heap.size w W1 := by rw [hW1]; exact ((Below.refl _ _).alloc (Nat.le_refl _) _).alloc (by simp) _
     have hr1 : zgv W1 w.heap.size #[.int .i64 2, .string N, .int .u32 (v : Nat), .int .u16 (x0 : Nat), .int .u16 (x1 : Nat), .int .u16 (x2 : Nat), .int .u16 (x3 : Nat), .int .u16 (x4 : Nat), .int .u16 (x5 : Nat), .int .u16 (x6 : Nat), .int .u16 (x7 : Nat)] := by rw [hW1]; exact Row.grown0 (zat w _ _) (World.grownBy_alloc _ _ none)
     have hz1 : Row W1 (w.heap.size + 1) 24 #[.int .u16 0, .int .u16 0, .int .u16 0, .int .u16 0, .int .u16 0, .int .u16 0, .int .u16 0, .int .u16 0] := by
      rw [hW1]
      have := zat (w.alloc (.cells #[.int .i64 2, .string N, .int .u32 (v : Nat), .int .u16 (x0 : Nat), .int .u16 (x1 : Nat), .int .u16 (x2 : Nat), .int .u16 (x3 : Nat), .int .u16 (x4 : Nat), .int .u16 (x5 : Nat), .int .u16 (x6 : Nat), .int .u16 (x7 : Nat)] 26)) #[.int .u16 0, .int .u16 0, .int .u16 0, .int .u16 0, .int .u16 0, .int .u16 0, .int .u16 0, .int .u16 0] 24
      rw [World.size_alloc] at this
      exact this
     rw [← hW1]
     clear hW1
     obtain ⟨p0, p1, p2, p3, p4, p5, p6, p7, p8, p9, p10⟩ := zfr hr1
     obtain ⟨z0, z1, z2, z3, z4, z5, z6, z7⟩ := zi6 hz1
     go_wp2
     go_ret
     exact ⟨zbx (by rw [HV.out]; simp), hb1⟩
   | true =>
     go_enter Tryz.func45, Tryz.ntmps45
     go_upto_region 2 with fail
     obtain ⟨W1, hW1⟩ : ∃ x, x = (w.alloc (.cells #[.int .i64 2, .string N, .int .u32 (v : Nat), .int .u16 (x0 : Nat), .int .u16 (x1 : Nat), .int .u16 (x2 : Nat), .int .u16 (x3 : Nat), .int .u16 (x4 : Nat), .int .u16 (x5 : Nat), .int .u16 (x6 : Nat), .int .u16 (x7 : Nat)] 26)).alloc (.cells #[.int .u16 0, .int .u16 0, .int .u16 0, .int .u16 0, .int .u16 0, .int .u16 0, .int .u16 0, .int .u16 0] 24) := ⟨_, rfl⟩
     have hb1 : Below w.heap.size w W1 := by rw [hW1]; exact ((Below.refl _ _).alloc (Nat.le_refl _) _).alloc (by simp) _
     have hr1 : zgv W1 w.heap.size #[.int .i64 2, .string N, .int .u32 (v : Nat), .int .u16 (x0 : Nat), .int .u16 (x1 : Nat), .int .u16 (x2 : Nat), .int .u16 (x3 : Nat), .int .u16 (x4 : Nat), .int .u16 (x5 : Nat), .int .u16 (x6 : Nat), .int .u16 (x7 : Nat)] := by rw [hW1]; exact Row.grown0 (zat w _ _) (World.grownBy_alloc _ _ none)
     have hz1 : Row W1 (w.heap.size + 1) 24 #[.int .u16 0, .int .u16 0, .int .u16 0, .int .u16 0, .int .u16 0, .int .u16 0, .int .u16 0, .int .u16 0] := by
      rw [hW1]
      have := zat (w.alloc (.cells #[.int .i64 2, .string N, .int .u32 (v : Nat), .int .u16 (x0 : Nat), .int .u16 (x1 : Nat), .int .u16 (x2 : Nat), .int .u16 (x3 : Nat), .int .u16 (x4 : Nat), .int .u16 (x5 : Nat), .int .u16 (x6 : Nat), .int .u16 (x7 : Nat)] 26)) #[.int .u16 0, .int .u16 0, .int .u16 0, .int .u16 0, .int .u16 0, .int .u16 0, .int .u16 0, .int .u16 0] 24
      rw [World.size_alloc] at this
      exact this
     rw [← hW1]
     clear hW1
     obtain ⟨p0, p1, p2, p3, p4, p5, p6, p7, p8, p9, p10⟩ := zfr hr1
     obtain ⟨z0, z1, z2, z3, z4, z5, z6, z7⟩ := zi6 hz1
     go_wp2
     go_ret
     exact ⟨zbx (by rw [HV.out]; simp), hb1⟩
  ·by_cases k3 : k = 3
   ·subst k3
    have HV : Hid (zhv ⟨3, n, v, [x0, x1, x2, x3, x4, x5, x6, x7]⟩ = (q4 && q2)) := by
     show _ = _
     rw [HV0.out, if_neg (by decide), if_neg (by decide), if_pos rfl]
    clear HV0
    clear c1 k1 k2
    cases q4 with
    | false =>
      go_enter Tryz.func45, Tryz.ntmps45
      go_upto_region 2 with fail
      obtain ⟨W1, hW1⟩ : ∃ x, x = (w.alloc (.cells #[.int .i64 3, .string N, .int .u32 (v : Nat), .int .u16 (x0 : Nat), .int .u16 (x1 : Nat), .int .u16 (x2 : Nat), .int .u16 (x3 : Nat), .int .u16 (x4 : Nat), .int .u16 (x5 : Nat), .int .u16 (x6 : Nat), .int .u16 (x7 : Nat)] 26)).alloc (.cells #[.int .u16 0, .int .u16 0, .int .u16 0, .int .u16 0, .int .u16 0, .int .u16 0, .int .u16 0, .int .u16 0] 24) := ⟨_, rfl⟩
      have hb1 : Below w.heap.size w W1 := by rw [hW1]; exact ((Below.refl _ _).alloc (Nat.le_refl _) _).alloc (by simp) _
      have hr1 : zgv W1 w.heap.size #[.int .i64 3, .string N, .int .u32 (v : Nat), .int .u16 (x0 : Nat), .int .u16 (x1 : Nat), .int .u16 (x2 : Nat), .int .u16 (x3 : Nat), .int .u16 (x4 : Nat), .int .u16 (x5 : Nat), .int .u16 (x6 : Nat), .int .u16 (x7 : Nat)] := by rw [hW1]; exact Row.grown0 (zat w _ _) (World.grownBy_alloc _ _ none)
      have hz1 : Row W1 (w.heap.size + 1) 24 #[.int .u16 0, .int .u16 0, .int .u16 0, .int .u16 0, .int .u16 0, .int .u16 0, .int .u16 0, .int .u16 0] := by
       rw [hW1]
       have := zat (w.alloc (.cells #[.int .i64 3, .string N, .int .u32 (v : Nat), .int .u16 (x0 : Nat), .int .u16 (x1 : Nat), .int .u16 (x2 : Nat), .int .u16 (x3 : Nat), .int .u16 (x4 : Nat), .int .u16 (x5 : Nat), .int .u16 (x6 : Nat), .int .u16 (x7 : Nat)] 26)) #[.int .u16 0, .int .u16 0, .int .u16 0, .int .u16 0, .int .u16 0, .int .u16 0, .int .u16 0, .int .u16 0] 24
       rw [World.size_alloc] at this
       exact this
      rw [← hW1]
      clear hW1
      obtain ⟨p0, p1, p2, p3, p4, p5, p6, p7, p8, p9, p10⟩ := zfr hr1
      obtain ⟨z0, z1, z2, z3, z4, z5, z6, z7⟩ := zi6 hz1
      go_wp2
      go_ret
      exact ⟨zbx (by rw [HV.out]; simp), hb1⟩
    | true =>
      go_enter Tryz.func45, Tryz.ntmps45
      go_upto_region 2 with fail
      obtain ⟨W1, hW1⟩ : ∃ x, x = (w.alloc (.cells #[.int .i64 3, .string N, .int .u32 (v : Nat), .int .u16 (x0 : Nat), .int .u16 (x1 : Nat), .int .u16 (x2 : Nat), .int .u16 (x3 : Nat), .int .u16 (x4 : Nat), .int .u16 (x5 : Nat), .int .u16 (x6 : Nat), .int .u16 (x7 : Nat)] 26)).alloc (.cells #[.int .u16 0, .int .u16 0, .int .u16 0, .int .u16 0, .int .u16 0, .int .u16 0, .int .u16 0, .int .u16 0] 24) := ⟨_, rfl⟩
      have hb1 : Below w.heap.size w W1 := by rw [hW1]; exact ((Below.refl _ _).alloc (Nat.le_refl _) _).alloc (by simp) _
      have hr1 : zgv W1 w.heap.size #[.int .i64 3, .string N, .int .u32 (v : Nat), .int .u16 (x0 : Nat), .int .u16 (x1 : Nat), .int .u16 (x2 : Nat), .int .u16 (x3 : Nat), .int .u16 (x4 : Nat), .int .u16 (x5 : Nat), .int .u16 (x6 : Nat), .int .u16 (x7 : Nat)] := by rw [hW1]; exact Row.grown0 (zat w _ _) (World.grownBy_alloc _ _ none)
      have hz1 : Row W1 (w.heap.size + 1) 24 #[.int .u16 0, .int .u16 0, .int .u16 0, .int .u16 0, .int .u16 0, .int .u16 0, .int .u16 0, .int .u16 0] := by
       rw [hW1]
       have := zat (w.alloc (.cells #[.int .i64 3, .string N, .int .u32 (v : Nat), .int .u16 (x0 : Nat), .int .u16 (x1 : Nat), .int .u16 (x2 : Nat), .int .u16 (x3 : Nat), .int .u16 (x4 : Nat), .int .u16 (x5 : Nat), .int .u16 (x6 : Nat), .int .u16 (x7 : Nat)] 26)) #[.int .u16 0, .int .u16 0, .int .u16 0, .int .u16 0, .int .u16 0, .int .u16 0, .int .u16 0, .int .u16 0] 24
       rw [World.size_alloc] at this
       exact this
      rw [← hW1]
      clear hW1
      obtain ⟨p0, p1, p2, p3, p4, p5, p6, p7, p8, p9, p10⟩ := zfr hr1
      obtain ⟨z0, z1, z2, z3, z4, z5, z6, z7⟩ := zi6 hz1
      go_wp2
      go_ret
      exact ⟨zbx (by rw [HV.out]; simp), hb1⟩
   ·skip
    have HV : Hid (zhv ⟨k, n, v, [x0, x1, x2, x3, x4, x5, x6, x7]⟩ = false) := by
     show _ = _
     rw [HV0.out, if_neg k1, if_neg k2, if_neg k3]
    clear HV0
    have t1 : (k == 1) = false := by rw [beq_eq_false_iff_ne]; assumption
    have t2 : (k == 2) = false := by rw [beq_eq_false_iff_ne]; assumption
    have t3 : (k == 3) = false := by rw [beq_eq_false_iff_ne]; assumption
    clear c1 k1 k2 k3
    go_enter Tryz.func45, Tryz.ntmps45
    go_upto_region 2 with fail
    obtain ⟨W1, hW1⟩ : ∃ x, x = (w.alloc (.cells #[.int .i64 k, .string N, .int .u32 (v : Nat), .int .u16 (x0 : Nat), .int .u16 (x1 : Nat), .int .u16 (x2 : Nat), .int .u16 (x3 : Nat), .int .u16 (x4 : Nat), .int .u16 (x5 : Nat), .int .u16 (x6 : Nat), .int .u16 (x7 : Nat)] 26)).alloc (.cells #[.int .u16 0, .int .u16 0, .int .u16 0, .int .u16 0, .int .u16 0, .int .u16 0, .int .u16 0, .int .u16 0] 24) := ⟨_, rfl⟩
    have hb1 : Below w.heap.size w W1 := by rw [hW1]; exact ((Below.refl _ _).alloc (Nat.le_refl _) _).alloc (by simp) _
    have hr1 : zgv W1 w.heap.size #[.int .i64 k, .string N, .int .u32 (v : Nat), .int .u16 (x0 : Nat), .int .u16 (x1 : Nat), .int .u16 (x2 : Nat), .int .u16 (x3 : Nat), .int .u16 (x4 : Nat), .int .u16 (x5 : Nat), .int .u16 (x6 : Nat), .int .u16 (x7 : Nat)] := by rw [hW1]; exact Row.grown0 (zat w _ _) (World.grownBy_alloc _ _ none)
    have hz1 : Row W1 (w.heap.size + 1) 24 #[.int .u16 0, .int .u16 0, .int .u16 0, .int .u16 0, .int .u16 0, .int .u16 0, .int .u16 0, .int .u16 0] := by
     rw [hW1]
     have := zat (w.alloc (.cells #[.int .i64 k, .string N, .int .u32 (v : Nat), .int .u16 (x0 : Nat), .int .u16 (x1 : Nat), .int .u16 (x2 : Nat), .int .u16 (x3 : Nat), .int .u16 (x4 : Nat), .int .u16 (x5 : Nat), .int .u16 (x6 : Nat), .int .u16 (x7 : Nat)] 26)) #[.int .u16 0, .int .u16 0, .int .u16 0, .int .u16 0, .int .u16 0, .int .u16 0, .int .u16 0, .int .u16 0] 24
     rw [World.size_alloc] at this
     exact this
    rw [← hW1]
    clear hW1
    obtain ⟨p0, p1, p2, p3, p4, p5, p6, p7, p8, p9, p10⟩ := zfr hr1
    obtain ⟨z0, z1, z2, z3, z4, z5, z6, z7⟩ := zi6 hz1
    go_wp2
    go_ret
    exact ⟨zbx (by rw [HV.out]), hb1⟩
set_option maxRecDepth 20000 in
set_option maxHeartbeats 4000000 in
theorem zi8 (hVal : zfq 45) (hF4 : zf5 70) (hF6 : zkx 71) : zf6 49 := by
 intro h w hw hn hp6
 cases hval : zhv h with
 | false =>
   rw [zf8 hval]
   obtain ⟨k, n, v, g⟩ := h
   obtain ⟨x0, x1, x2, x3, x4, x5, x6, x7, rfl⟩ := zf2 g hw.2.1
   have c1 := fun W => hVal ⟨k, n, v, [x0, x1, x2, x3, x4, x5, x6, x7]⟩ W hw hn
   rw [hval] at c1
   have eV : (Hv.mk k n v [x0, x1, x2, x3, x4, x5, x6, x7]).val = .agg #[.int .i64 k, .string (bs n), .int .u32 (v : Nat), .int .u16 (x0 : Nat), .int .u16 (x1 : Nat), .int .u16 (x2 : Nat), .int .u16 (x3 : Nat), .int .u16 (x4 : Nat), .int .u16 (x5 : Nat), .int .u16 (x6 : Nat), .int .u16 (x7 : Nat)] := rfl
   rw [eV] at c1 ⊢
   have hr : zgv (w.alloc (.cells #[.int .i64 k, .string (bs n), .int .u32 (v : Nat), .int .u16 (x0 : Nat), .int .u16 (x1 : Nat), .int .u16 (x2 : Nat), .int .u16 (x3 : Nat), .int .u16 (x4 : Nat), .int .u16 (x5 : Nat), .int .u16 (x6 : Nat), .int .u16 (x7 : Nat)] 26)) w.heap.size _ := zat w _ _
   generalize bs n = N at *
   clear eV hval hw hn hp6
   go_enter Tryz.func49, Tryz.ntmps49
   go_wp2_with (refine zgx rfl _ rfl w.heap.size (by exact rfl) _ hr rfl ?_)
   refine (c1 _).mono ?_
   rintro e w1 ⟨rfl, hb1⟩
   replace hb1 := ((Below.refl _ w).alloc (Nat.le_refl _) _).trans (hb1.mono (by simp))
   go_wp2
   go_ret
   exact ⟨rfl, hb1⟩
 | true =>
   rw [zf9 hval]
   rcases zij hval with ⟨_, e⟩ | e | e
   ·obtain ⟨n, hn1⟩ : ∃ n, n = h.name := ⟨_, rfl⟩
    rw [← hn1] at e
    subst e
    have c1 := fun W => hVal (hvD n) W hw hn
    rw [hval] at c1
    have eV : (hvD n).val = .agg #[.int .i64 1, .string (bs n), .int .u32 0, .int .u16 0, .int .u16 0, .int .u16 0, .int .u16 0, .int .u16 0, .int .u16 0, .int .u16 0, .int .u16 0] := rfl
    have eT : zhw (hvD n) = n := rfl
    rw [eT]
    rw [eV] at c1 ⊢
    have hr : zgv (w.alloc (.cells #[.int .i64 1, .string (bs n), .int .u32 0, .int .u16 0, .int .u16 0, .int .u16 0, .int .u16 0, .int .u16 0, .int .u16 0, .int .u16 0, .int .u16 0] 26)) w.heap.size _ := zat w _ _
    clear hn1
    generalize bs n = N at *
    clear eV hval hw hn hp6
    go_enter Tryz.func49, Tryz.ntmps49
    go_wp2_with (refine zgx rfl _ rfl w.heap.size (by exact rfl) _ hr rfl ?_)
    refine (c1 _).mono ?_
    rintro e w1 ⟨rfl, hb1⟩
    have hr1 := Row.below hr hb1 hr.lt
    replace hb1 := ((Below.refl _ w).alloc (Nat.le_refl _) _).trans (hb1.mono (by simp))
    have p0 := Row.cell hr1 (k := 0) (by simp)
    have p1 := Row.cell hr1 (k := 1) (by simp)
    simp only [List.getElem_toArray, List.getElem_cons_zero, List.getElem_cons_succ] at p0 p1
    go_wp2
    go_ret
    exact ⟨rfl, hb1⟩
   ·obtain ⟨v, hv1⟩ : ∃ v, v = h.v4 := ⟨_, rfl⟩
    rw [← hv1] at e
    subst e
    have c1 := fun W => hVal (hv4 v) W hw hn
    rw [hval] at c1
    have eV : (hv4 v).val = .agg #[.int .i64 2, .string ⟨#[]⟩, .int .u32 (v : Nat), .int .u16 0, .int .u16 0, .int .u16 0, .int .u16 0, .int .u16 0, .int .u16 0, .int .u16 0, .int .u16 0] := rfl
    have eT : zhw (hv4 v) = zqn v := rfl
    rw [eT]
    rw [eV] at c1 ⊢
    have hr : zgv (w.alloc (.cells #[.int .i64 2, .string ⟨#[]⟩, .int .u32 (v : Nat), .int .u16 0, .int .u16 0, .int .u16 0, .int .u16 0, .int .u16 0, .int .u16 0, .int .u16 0, .int .u16 0] 26)) w.heap.size _ := zat w _ _
    have hv9 : v < 4294967296 := hw.1
    have c2 := fun W hW => hF4 (v : Nat) (by omega) (by omega) W hW
    simp only [show ((v : Nat) : Int).toNat = v from rfl] at c2
    generalize bs (zqn v) = N at *
    have HP := Lib.hid hp6
    clear eV hval hw hn hp6 hv1
    go_enter Tryz.func49, Tryz.ntmps49
    go_wp2_with (refine zgx rfl _ rfl w.heap.size (by exact rfl) _ hr rfl ?_)
    refine (c1 _).mono ?_
    rintro e w1 ⟨rfl, hb1⟩
    have hr1 := Row.below hr hb1 hr.lt
    replace hb1 := ((Below.refl _ w).alloc (Nat.le_refl _) _).trans (hb1.mono (by simp))
    have p0 := Row.cell hr1 (k := 0) (by simp)
    have p2 := Row.cell hr1 (k := 2) (by simp)
    simp only [List.getElem_toArray, List.getElem_cons_zero, List.getElem_cons_succ] at p0 p2
    have c3 := c2 w1 (zva HP.out hb1).1
    go_wp2_with fail
    refine c3.mono ?_
    rintro e w2 ⟨rfl, hb2⟩
    go_wp2
    go_ret
    exact ⟨rfl, hb1.trans (hb2.mono hb1.size)⟩
   ·obtain ⟨g, hg1⟩ : ∃ g, g = h.v6 := ⟨_, rfl⟩
    rw [← hg1] at e
    subst e
    have hg8 : g.length = 8 := hw.2.1
    have c2 := fun W hW => hF6 g hg8 hw.2.2 W hW
    obtain ⟨x0, x1, x2, x3, x4, x5, x6, x7, rfl⟩ := zf2 g hg8
    have c1 := fun W => hVal (hv6 [x0, x1, x2, x3, x4, x5, x6, x7]) W hw hn
    rw [hval] at c1
    have eV : (hv6 [x0, x1, x2, x3, x4, x5, x6, x7]).val = .agg #[.int .i64 3, .string ⟨#[]⟩, .int .u32 0, .int .u16 (x0 : Nat), .int .u16 (x1 : Nat), .int .u16 (x2 : Nat), .int .u16 (x3 : Nat), .int .u16 (x4 : Nat), .int .u16 (x5 : Nat), .int .u16 (x6 : Nat), .int .u16 (x7 : Nat)] := rfl
    have eT : zhw (hv6 [x0, x1, x2, x3, x4, x5, x6, x7]) = 91 :: (zny [x0, x1, x2, x3, x4, x5, x6, x7] ++ [93]) := rfl
    have e1 : av [x0, x1, x2, x3, x4, x5, x6, x7] = #[.int .u16 (x0 : Nat), .int .u16 (x1 : Nat), .int .u16 (x2 : Nat), .int .u16 (x3 : Nat), .int .u16 (x4 : Nat), .int .u16 (x5 : Nat), .int .u16 (x6 : Nat), .int .u16 (x7 : Nat)] := rfl
    rw [eT]
    rw [eV] at c1 ⊢
    simp only [e1] at c2
    have hr : zgv (w.alloc (.cells #[.int .i64 3, .string ⟨#[]⟩, .int .u32 0, .int .u16 (x0 : Nat), .int .u16 (x1 : Nat), .int .u16 (x2 : Nat), .int .u16 (x3 : Nat), .int .u16 (x4 : Nat), .int .u16 (x5 : Nat), .int .u16 (x6 : Nat), .int .u16 (x7 : Nat)] 26)) w.heap.size _ := zat w _ _
    have HF : Hid (bs (91 :: (zny [x0, x1, x2, x3, x4, x5, x6, x7] ++ [93])) = (⟨#[91]⟩ : ByteArray) ++ bs (zny [x0, x1, x2, x3, x4, x5, x6, x7]) ++ ⟨#[93]⟩) := by
     show _ = _
     refine zb2 ?_
     rw [zb6, zb6, zb0, zb0]
     rfl
    have hN9 : (bs (zny [x0, x1, x2, x3, x4, x5, x6, x7])).size ≤ 82 := by rw [zb5]; exact zf7 hw.2.2
    rw [HF.out]
    generalize bs (zny [x0, x1, x2, x3, x4, x5, x6, x7]) = N at *
    have HP := Lib.hid hp6
    clear eV hval hw hn hp6 hg1 HF eT hg8 e1
    go_enter Tryz.func49, Tryz.ntmps49
    go_wp2_with (refine zgx rfl _ rfl w.heap.size (by exact rfl) _ hr rfl ?_)
    refine (c1 _).mono ?_
    rintro e w1 ⟨rfl, hb1⟩
    have hr1 := Row.below hr hb1 hr.lt
    replace hb1 := ((Below.refl _ w).alloc (Nat.le_refl _) _).trans (hb1.mono (by simp))
    obtain ⟨p0, p1, p2, p3, p4, p5, p6, p7, p8, p9, p10⟩ := zfr (k := 3) (N := ⟨#[]⟩) (v := 0) hr1
    have c3 := c2 w1 (zva HP.out hb1)
    go_wp2_with fail
    refine c3.mono ?_
    rintro e w2 ⟨rfl, hb2⟩
    go_wp2
    go_ret
    exact ⟨rfl, hb1.trans (hb2.mono hb1.size)⟩
theorem zi9 : zf6 49 :=
 zi8 zi7 (fun v h0 h1 w _ => zqa v h0 h1 w) (fun a ha hg w _ => zkv a ha hg w)
end

section
open Go.RowKit Go.Shelf
def z7n (p : Int) : List UInt8 := if 0 ≤ p then 58 :: Lib.decDigits p.toNat else if p < -1 then [58, 120] else []
def z7o (u : Uv) : List UInt8 := if z5d u.scheme = true then u.scheme ++ 58 :: 47 :: 47 :: (z5v u.user ++ (zhx u.host ++ z7n u.port) ++ u.rest) else u.scheme ++ 58 :: u.rest
theorem z7p {u : Uv} (h : -1 ≤ u.port) : z7o u = z5x u := by
 have e : z7n u.port = z5w u.port := by
  unfold z7n z5w
  by_cases hp : u.port = -1
  ·rw [if_pos hp, hp]
   rfl
  ·rw [if_neg hp, if_pos (by omega)]
 unfold z7o z5x
 rw [e]
theorem z7q : ls ⟨#[58, 47, 47]⟩ = [58, 47, 47] := rfl
theorem z7r : ls ⟨#[58, 120]⟩ = [58, 120] := rfl
set_option maxHeartbeats 1000000 in
theorem z7s (u : Uv) (h : USm u) (w : World) (hP : zu8 w) :
 Calls Tryz.prog 35 #[.agg u.cells] w fun e w' => e = .returned (.string (bs (z7o u))) ∧ Below w.heap.size w w' := by
 have hw := h.wf; have hn := h.hn; have hs1 := h.s1; have hs2 := h.s2; have hs3 := h.s3; have h0 := h.p0; have h1 := h.p1
 have cF := fun W hW => zi9 u.host W hw (Nat.le_trans hn (by decide)) hW
 unfold Hv.val at cF
 have hC := z8i u
 have hH : u.host.cells.size = 11 := rfl
 obtain ⟨C, hCe⟩ : ∃ C, C = u.cells := ⟨_, rfl⟩
 obtain ⟨H, hHe⟩ : ∃ H, H = u.host.cells := ⟨_, rfl⟩
 rw [← hCe, ← hHe] at hC
 rw [← hHe] at cF hH
 rw [← hCe]
 have cs := fun W => z65 (bs u.scheme) W
 rw [zb0] at cs
 obtain ⟨T, hT⟩ : ∃ T, T = bs (z7o u) := ⟨_, rfl⟩
 rw [← hT]
 have zS : (bs u.scheme).size ≤ 1000000000 := by rw [zb5]; omega
 have zR : (bs u.rest).size ≤ 1000000000 := by rw [zb5]; omega
 have zU : (bs u.user).size ≤ 1000000000 := by rw [zb5]; omega
 have zF : (bs (zhx u.host)).size ≤ 1000000084 := by rw [zb5]; have := zgq hw; omega
 clear h
 by_cases hq : z5d u.scheme = true
 ·rw [hq] at cs
  by_cases hu : u.user = []
  ·have hue : (bs u.user).toList.isEmpty = true := by rw [hu, Lib.toList_data]; rfl
   by_cases hp0 : 0 ≤ u.port
   ·have HT : Hid (T = bs u.scheme ++ ⟨#[58, 47, 47]⟩ ++ bs (zhx u.host) ++ (⟨#[58]⟩ ++ bs (Lib.decDigits u.port.toNat)) ++ bs u.rest) := by
     refine Lib.hid (hT.trans ?_)
     unfold z7o z7n z5v
     rw [if_pos hq, if_pos hu, if_pos hp0]
     apply zb2
     simp only [zb0, zb6, z7q, z35]
     simp
    have ci := fun W => zz0 u.port hp0 h1 W
    have zP : (bs (Lib.decDigits u.port.toNat)).size ≤ 19 := zzv _ (by omega)
    have t1 : (0 : Int) ≤ u.port := hp0
    have t3 : decide ((0 : Int) ≤ u.port) = true := decide_eq_true t1
    clear hT hu
    generalize bs u.scheme = S at *
    generalize bs u.rest = R at *
    generalize bs u.user = U at *
    generalize bs u.host.name = N at *
    generalize bs (zhx u.host) = F at *
    generalize bs (Lib.decDigits u.port.toNat) = P at *
    generalize u.port = p at *
    clear hq hCe hHe hs1 hs2 hs3 hn hw h0 h1
    go_enter Tryz.func35, Tryz.ntmps35
    go_wp2_with (first
     | (refine zax _ rfl 1 rfl _ _ rfl _ C (by exact rfl) (by exact rfl) ?_; intro W1 g1 hg1 hl1 hR1 hG1; have hbw := zav (Below.refl w.heap.size w) hG1 (Nat.le_refl _)
        obtain ⟨e0, e1, e3, e13, e14⟩ := hC.cell hR1)
     | (go_at_call 15; refine (cs _).mono ?_; rintro e w5 ⟨rfl, rfl⟩)
     | refine z8e rfl _ rfl g1 (by exact rfl) C hR1 H hC.hh hH ?_
     | (go_at_call 49; refine (cF _ (zva hP hbw)).mono ?_; rintro e w6 ⟨rfl, hb6⟩
        replace hR1 : z8b w6 g1 C := Row.below hR1 hb6 (Row.lt hR1)
        replace hbw := hbw.trans (hb6.mono hbw.size)
        clear hb6 e0 e1 e3 e13 e14
        obtain ⟨e0, e1, e3, e13, e14⟩ := hC.cell hR1)
     | (go_at_call 50; refine (ci _).mono ?_; rintro e w6 ⟨rfl, hb6⟩
        replace hR1 : z8b w6 g1 C := Row.below hR1 hb6 (Row.lt hR1)
        replace hbw := hbw.trans (hb6.mono hbw.size)
        clear hb6 e0 e1 e3 e13 e14
        obtain ⟨e0, e1, e3, e13, e14⟩ := hC.cell hR1))
    go_ret
    exact ⟨by rw [HT.out]; rfl, hbw⟩
   ·by_cases hp0 : u.port < -1
    ·have HT : Hid (T = bs u.scheme ++ ⟨#[58, 47, 47]⟩ ++ bs (zhx u.host) ++ ⟨#[58, 120]⟩ ++ bs u.rest) := by
      refine Lib.hid (hT.trans ?_)
      unfold z7o z7n z5v
      rw [if_pos hq, if_pos hu, if_neg (show ¬ (0 : Int) ≤ u.port by omega), if_pos hp0]
      apply zb2
      simp only [zb0, zb6, z7q, z7r]
      simp
     have t1 : ¬ (0 : Int) ≤ u.port := by omega
     have t2 : u.port < -1 := hp0
     have t3 : decide ((0 : Int) ≤ u.port) = false := decide_eq_false t1
     have t4 : decide (u.port < -1) = true := decide_eq_true t2
     clear hT hu
     generalize bs u.scheme = S at *
     generalize bs u.rest = R at *
     generalize bs u.user = U at *
     generalize bs u.host.name = N at *
     generalize bs (zhx u.host) = F at *
     skip
     generalize u.port = p at *
     clear hq hCe hHe hs1 hs2 hs3 hn hw h0 h1
     go_enter Tryz.func35, Tryz.ntmps35
     go_wp2_with (first
      | (refine zax _ rfl 1 rfl _ _ rfl _ C (by exact rfl) (by exact rfl) ?_; intro W1 g1 hg1 hl1 hR1 hG1; have hbw := zav (Below.refl w.heap.size w) hG1 (Nat.le_refl _)
         obtain ⟨e0, e1, e3, e13, e14⟩ := hC.cell hR1)
      | (go_at_call 15; refine (cs _).mono ?_; rintro e w5 ⟨rfl, rfl⟩)
      | refine z8e rfl _ rfl g1 (by exact rfl) C hR1 H hC.hh hH ?_
      | (go_at_call 49; refine (cF _ (zva hP hbw)).mono ?_; rintro e w6 ⟨rfl, hb6⟩
         replace hR1 : z8b w6 g1 C := Row.below hR1 hb6 (Row.lt hR1)
         replace hbw := hbw.trans (hb6.mono hbw.size)
         clear hb6 e0 e1 e3 e13 e14
         obtain ⟨e0, e1, e3, e13, e14⟩ := hC.cell hR1))
     go_ret
     exact ⟨by rw [HT.out]; rfl, hbw⟩
    ·have HT : Hid (T = bs u.scheme ++ ⟨#[58, 47, 47]⟩ ++ bs (zhx u.host) ++ bs u.rest) := by
      refine Lib.hid (hT.trans ?_)
      unfold z7o z7n z5v
      rw [if_pos hq, if_pos hu, if_neg (show ¬ (0 : Int) ≤ u.port by omega), if_neg (show ¬ u.port < -1 by omega)]
      apply zb2
      simp only [zb0, zb6, z7q]
      simp
     have t1 : ¬ (0 : Int) ≤ u.port := by omega
     have t2 : ¬ u.port < -1 := by omega
     have t3 : decide ((0 : Int) ≤ u.port) = false := decide_eq_false t1
     have t4 : decide (u.port < -1) = false := decide_eq_false t2
     clear hT hu
     generalize bs u.scheme = S at *
     generalize bs u.rest = R at *
     generalize bs u.user = U at *
     generalize bs u.host.name = N at *
     generalize bs (zhx u.host) = F at *
     skip
     generalize u.port = p at *
     clear hq hCe hHe hs1 hs2 hs3 hn hw h0 h1
     go_enter Tryz.func35, Tryz.ntmps35
     go_wp2_with (first
      | (refine zax _ rfl 1 rfl _ _ rfl _ C (by exact rfl) (by exact rfl) ?_; intro W1 g1 hg1 hl1 hR1 hG1; have hbw := zav (Below.refl w.heap.size w) hG1 (Nat.le_refl _)
         obtain ⟨e0, e1, e3, e13, e14⟩ := hC.cell hR1)
      | (go_at_call 15; refine (cs _).mono ?_; rintro e w5 ⟨rfl, rfl⟩)
      | refine z8e rfl _ rfl g1 (by exact rfl) C hR1 H hC.hh hH ?_
      | (go_at_call 49; refine (cF _ (zva hP hbw)).mono ?_; rintro e w6 ⟨rfl, hb6⟩
         replace hR1 : z8b w6 g1 C := Row.below hR1 hb6 (Row.lt hR1)
         replace hbw := hbw.trans (hb6.mono hbw.size)
         clear hb6 e0 e1 e3 e13 e14
         obtain ⟨e0, e1, e3, e13, e14⟩ := hC.cell hR1))
     go_ret
     exact ⟨by rw [HT.out]; rfl, hbw⟩
  ·have hue : (bs u.user).toList.isEmpty = false := by
    rw [Lib.toList_data]
    show u.user.isEmpty = false
    cases h : u.user with
    | nil => exact absurd h hu
    | cons _ _ => rfl
   by_cases hp0 : 0 ≤ u.port
   ·have HT : Hid (T = bs u.scheme ++ ⟨#[58, 47, 47]⟩ ++ (bs u.user ++ ⟨#[64]⟩) ++ bs (zhx u.host) ++ (⟨#[58]⟩ ++ bs (Lib.decDigits u.port.toNat)) ++ bs u.rest) := by
     refine Lib.hid (hT.trans ?_)
     unfold z7o z7n z5v
     rw [if_pos hq, if_neg hu, if_pos hp0]
     apply zb2
     simp only [zb0, zb6, z7q, z34, z35]
     simp
    have ci := fun W => zz0 u.port hp0 h1 W
    have zP : (bs (Lib.decDigits u.port.toNat)).size ≤ 19 := zzv _ (by omega)
    have t1 : (0 : Int) ≤ u.port := hp0
    have t3 : decide ((0 : Int) ≤ u.port) = true := decide_eq_true t1
    clear hT hu
    generalize bs u.scheme = S at *
    generalize bs u.rest = R at *
    generalize bs u.user = U at *
    generalize bs u.host.name = N at *
    generalize bs (zhx u.host) = F at *
    generalize bs (Lib.decDigits u.port.toNat) = P at *
    generalize u.port = p at *
    clear hq hCe hHe hs1 hs2 hs3 hn hw h0 h1
    go_enter Tryz.func35, Tryz.ntmps35
    go_wp2_with (first
     | (refine zax _ rfl 1 rfl _ _ rfl _ C (by exact rfl) (by exact rfl) ?_; intro W1 g1 hg1 hl1 hR1 hG1; have hbw := zav (Below.refl w.heap.size w) hG1 (Nat.le_refl _)
        obtain ⟨e0, e1, e3, e13, e14⟩ := hC.cell hR1)
     | (go_at_call 15; refine (cs _).mono ?_; rintro e w5 ⟨rfl, rfl⟩)
     | refine z8e rfl _ rfl g1 (by exact rfl) C hR1 H hC.hh hH ?_
     | (go_at_call 49; refine (cF _ (zva hP hbw)).mono ?_; rintro e w6 ⟨rfl, hb6⟩
        replace hR1 : z8b w6 g1 C := Row.below hR1 hb6 (Row.lt hR1)
        replace hbw := hbw.trans (hb6.mono hbw.size)
        clear hb6 e0 e1 e3 e13 e14
        obtain ⟨e0, e1, e3, e13, e14⟩ := hC.cell hR1)
     | (go_at_call 50; refine (ci _).mono ?_; rintro e w6 ⟨rfl, hb6⟩
        replace hR1 : z8b w6 g1 C := Row.below hR1 hb6 (Row.lt hR1)
        replace hbw := hbw.trans (hb6.mono hbw.size)
        clear hb6 e0 e1 e3 e13 e14
        obtain ⟨e0, e1, e3, e13, e14⟩ := hC.cell hR1))
    go_ret
    exact ⟨by rw [HT.out]; rfl, hbw⟩
   ·by_cases hp0 : u.port < -1
    ·have HT : Hid (T = bs u.scheme ++ ⟨#[58, 47, 47]⟩ ++ (bs u.user ++ ⟨#[64]⟩) ++ bs (zhx u.host) ++ ⟨#[58, 120]⟩ ++ bs u.rest) := by
      refine Lib.hid (hT.trans ?_)
      unfold z7o z7n z5v
      rw [if_pos hq, if_neg hu, if_neg (show ¬ (0 : Int) ≤ u.port by omega), if_pos hp0]
      apply zb2
      simp only [zb0, zb6, z7q, z34, z7r]
      simp
     have t1 : ¬ (0 : Int) ≤ u.port := by omega
     have t2 : u.port < -1 := hp0
     have t3 : decide ((0 : Int) ≤ u.port) = false := decide_eq_false t1
     have t4 : decide (u.port < -1) = true := decide_eq_true t2
     clear hT hu
     generalize bs u.scheme = S at *
     generalize bs u.rest = R at *
     generalize bs u.user = U at *
     generalize bs u.host.name = N at *
     generalize bs (zhx u.host) = F at *
     skip
     generalize u.port = p at *
     clear hq hCe hHe hs1 hs2 hs3 hn hw h0 h1
     go_enter Tryz.func35, Tryz.ntmps35
     go_wp2_with (first
      | (refine zax _ rfl 1 rfl _ _ rfl _ C (by exact rfl) (by exact rfl) ?_; intro W1 g1 hg1 hl1 hR1 hG1; have hbw := zav (Below.refl w.heap.size w) hG1 (Nat.le_refl _)
         obtain ⟨e0, e1, e3, e13, e14⟩ := hC.cell hR1)
      | (go_at_call 15; refine (cs _).mono ?_; rintro e w5 ⟨rfl, rfl⟩)
      | refine z8e rfl _ rfl g1 (by exact rfl) C hR1 H hC.hh hH ?_
      | (go_at_call 49; refine (cF _ (zva hP hbw)).mono ?_; rintro e w6 ⟨rfl, hb6⟩
         replace hR1 : z8b w6 g1 C := Row.below hR1 hb6 (Row.lt hR1)
         replace hbw := hbw.trans (hb6.mono hbw.size)
         clear hb6 e0 e1 e3 e13 e14
         obtain ⟨e0, e1, e3, e13, e14⟩ := hC.cell hR1))
     go_ret
     exact ⟨by rw [HT.out]; rfl, hbw⟩
    ·have HT : Hid (T = bs u.scheme ++ ⟨#[58, 47, 47]⟩ ++ (bs u.user ++ ⟨#[64]⟩) ++ bs (zhx u.host) ++ bs u.rest) := by
      refine Lib.hid (hT.trans ?_)
      unfold z7o z7n z5v
      rw [if_pos hq, if_neg hu, if_neg (show ¬ (0 : Int) ≤ u.port by omega), if_neg (show ¬ u.port < -1 by omega)]
      apply zb2
      simp only [zb0, zb6, z7q, z34]
      simp
     have t1 : ¬ (0 : Int) ≤ u.port := by omega
     have t2 : ¬ u.port < -1 := by omega
     have t3 : decide ((0 : Int) ≤ u.port) = false := decide_eq_false t1
     have t4 : decide (u.port < -1) = false := decide_eq_false t2
     clear hT hu
     generalize bs u.scheme = S at *
     generalize bs u.rest = R at *
     generalize bs u.user = U at *
     generalize bs u.host.name = N at *
     generalize bs (zhx u.host) = F at *
     skip
     generalize u.port = p at *
     clear hq hCe hHe hs1 hs2 hs3 hn hw h0 h1
     go_enter Tryz.func35, Tryz.ntmps35
     go_wp2_with (first
      | (refine zax _ rfl 1 rfl _ _ rfl _ C (by exact rfl) (by exact rfl) ?_; intro W1 g1 hg1 hl1 hR1 hG1; have hbw := zav (Below.refl w.heap.size w) hG1 (Nat.le_refl _)
         obtain ⟨e0, e1, e3, e13, e14⟩ := hC.cell hR1)
      | (go_at_call 15; refine (cs _).mono ?_; rintro e w5 ⟨rfl, rfl⟩)
      | refine z8e rfl _ rfl g1 (by exact rfl) C hR1 H hC.hh hH ?_
      | (go_at_call 49; refine (cF _ (zva hP hbw)).mono ?_; rintro e w6 ⟨rfl, hb6⟩
         replace hR1 : z8b w6 g1 C := Row.below hR1 hb6 (Row.lt hR1)
         replace hbw := hbw.trans (hb6.mono hbw.size)
         clear hb6 e0 e1 e3 e13 e14
         obtain ⟨e0, e1, e3, e13, e14⟩ := hC.cell hR1))
     go_ret
     exact ⟨by rw [HT.out]; rfl, hbw⟩
 ·have hq' : z5d u.scheme = false := by simpa using hq
  rw [hq'] at cs
  have HT : Hid (T = bs u.scheme ++ ⟨#[58]⟩ ++ bs u.rest) := by
   refine Lib.hid (hT.trans ?_)
   unfold z7o
   rw [if_neg hq]
   apply zb2
   simp only [zb0, zb6, z35]
   simp
  clear hT
  generalize bs u.scheme = S at *
  generalize bs u.rest = R at *
  generalize bs u.user = U at *
  generalize bs u.host.name = N at *
  generalize u.port = p at *
  clear hq hq' hCe hHe hs1 hs2 hs3 hn hw cF h0 h1
  go_enter Tryz.func35, Tryz.ntmps35
  go_wp2_with (first
   | (refine zax _ rfl 1 rfl _ _ rfl _ C (by exact rfl) (by exact rfl) ?_; intro W1 g1 hg1 hl1 hR1 hG1; have hbw := zav (Below.refl w.heap.size w) hG1 (Nat.le_refl _)
      obtain ⟨e0, e1, e3, e13, e14⟩ := hC.cell hR1)
   | (go_at_call 15; refine (cs _).mono ?_; rintro e w5 ⟨rfl, rfl⟩))
  go_ret
  exact ⟨by rw [HT.out]; rfl, hbw⟩
end

end Go.Proofs.YtekaljeicfjkjaaGreatDoor
