/-
The reference's Valid and Format of layer 14; the walk of HostFormatMatchesSpec (written by tools/gen-HrF.py).
The reference's Covers of layer 14.
Loopback of package origin and of its reference (written by tools/gen-OrL.py).
The reference's small functions of package url.
The reference's text of a URL (written by tools/gen-UrTx.py).
-/
import Derived.Test.YtekaljeicfjkjaaGreatDoorK16
import Derived.Test.YtekaljeicfjkjaaGreatDoorK23
import Derived.Test.YtekaljeicfjkjaaGreatDoorK09
import Derived.Test.YtekaljeicfjkjaaGreatDoorK32
import Derived.Test.YtekaljeicfjkjaaGreatDoorK27
import Derived.Test.YtekaljeicfjkjaaGreatDoorK26
import Derived.Test.YtekaljeicfjkjaaGreatDoorK07
namespace Go.Proofs.YtekaljeicfjkjaaGreatDoor
section
open Go.RowKit Go.Shelf
set_option maxHeartbeats 16000000
theorem zi9 {W : World} {B : Nat} (h : Row W B 24 #[.int .u16 0, .int .u16 0, .int .u16 0, .int .u16 0, .int .u16 0, .int .u16 0, .int .u16 0, .int .u16 0]) : W.cell? ⟨B, 0, none⟩ = some (.int .u16 0) /\ W.cell? ⟨B, 1, none⟩ = some (.int .u16 0) /\ W.cell? ⟨B, 2, none⟩ = some (.int .u16 0) /\ W.cell? ⟨B, 3, none⟩ = some (.int .u16 0) /\ W.cell? ⟨B, 4, none⟩ = some (.int .u16 0) /\ W.cell? ⟨B, 5, none⟩ = some (.int .u16 0) /\ W.cell? ⟨B, 6, none⟩ = some (.int .u16 0) /\ W.cell? ⟨B, 7, none⟩ = some (.int .u16 0) :=
 ⟨Row.cell h (k := 0) (by simp), Row.cell h (k := 1) (by simp), Row.cell h (k := 2) (by simp), Row.cell h (k := 3) (by simp), Row.cell h (k := 4) (by simp), Row.cell h (k := 5) (by simp), Row.cell h (k := 6) (by simp), Row.cell h (k := 7) (by simp)⟩
set_option maxRecDepth 20000 in
theorem zja : zft 45 := by
 intro h w hw hn
 obtain ⟨k, n, v, g⟩ := h
 obtain ⟨hv4, hg8, hg⟩ := hw
 simp only at hv4 hg8 hg hn
 obtain ⟨x0, x1, x2, x3, x4, x5, x6, x7, rfl⟩ := zf5 g hg8
 have eV : (Hv.mk k n v [x0, x1, x2, x3, x4, x5, x6, x7]).val = .agg #[.int .i64 k, .string (bs n), .int .u32 (v : Nat), .int .u16 (x0 : Nat), .int .u16 (x1 : Nat), .int .u16 (x2 : Nat), .int .u16 (x3 : Nat), .int .u16 (x4 : Nat), .int .u16 (x5 : Nat), .int .u16 (x6 : Nat), .int .u16 (x7 : Nat)] := rfl
 rw [eV]
 have heq := zk3 [x0, x1, x2, x3, x4, x5, x6, x7] z8 rfl rfl
 rw [show av [x0, x1, x2, x3, x4, x5, x6, x7] = #[.int .u16 (x0 : Nat), .int .u16 (x1 : Nat), .int .u16 (x2 : Nat), .int .u16 (x3 : Nat), .int .u16 (x4 : Nat), .int .u16 (x5 : Nat), .int .u16 (x6 : Nat), .int .u16 (x7 : Nat)] from rfl, show av z8 = #[.int .u16 0, .int .u16 0, .int .u16 0, .int .u16 0, .int .u16 0, .int .u16 0, .int .u16 0, .int .u16 0] from rfl] at heq
 have c1 := fun W => zjv (bs n) W (by rw [zb5]; exact hn)
 rw [zb0] at c1
 obtain ⟨N, hN⟩ : ∃ N, N = bs n := ⟨_, rfl⟩
 have hNe : (N.toList == ([] : List UInt8)) = n.isEmpty := by rw [hN, zb3, zb0]; cases n <;> rfl
 have hNe' : N.toList.isEmpty = n.isEmpty := by rw [hN, zb3, zb0]
 have hv' : (((v : Nat) : Int) == 0) = (v == 0) := by rw [Bool.eq_iff_iff]; simp
 have hv'' : decide (((v : Nat) : Int) = 0) = (v == 0) := by rw [Bool.eq_iff_iff]; simp
 have HV0 : Hid (∀ K : Int, zhx ⟨K, n, v, [x0, x1, x2, x3, x4, x5, x6, x7]⟩ = if K = 1 then vnL n && v == 0 && decide ([x0, x1, x2, x3, x4, x5, x6, x7] = z8) else if K = 2 then n.isEmpty && decide ([x0, x1, x2, x3, x4, x5, x6, x7] = z8) else if K = 3 then n.isEmpty && v == 0 else false) := jL fun K => by
  unfold zhx
  rw [show ([x0, x1, x2, x3, x4, x5, x6, x7] == z8) = decide ([x0, x1, x2, x3, x4, x5, x6, x7] = z8) by rw [Bool.eq_iff_iff, beq_iff_eq, decide_eq_true_iff]]
 simp only [<- hN] at c1 ⊢
 generalize decide ([x0, x1, x2, x3, x4, x5, x6, x7] = z8) = q3 at *
 generalize (v == 0) = q2 at *
 generalize vnL n = q1 at *
 generalize n.isEmpty = q4 at *
 clear hN eV hn hg8 hv4
 have HG := jL hg
 clear hg HG
 by_cases k1 : k = 1
 ·subst k1
  have HV : Hid (zhx ⟨1, n, v, [x0, x1, x2, x3, x4, x5, x6, x7]⟩ = (q1 && q2 && q3)) := by
   show _ = _
   rw [HV0.out, if_pos rfl]
  clear HV0
  cases q1 with
  | false =>
    go_enter Tryz.func45, Tryz.ntmps45
    go_upto_region 2 with fail
    obtain ⟨W1, hW1⟩ : ∃ x, x = (w.alloc (.cells #[.int .i64 1, .string N, .int .u32 (v : Nat), .int .u16 (x0 : Nat), .int .u16 (x1 : Nat), .int .u16 (x2 : Nat), .int .u16 (x3 : Nat), .int .u16 (x4 : Nat), .int .u16 (x5 : Nat), .int .u16 (x6 : Nat), .int .u16 (x7 : Nat)] 26)).alloc (.cells #[.int .u16 0, .int .u16 0, .int .u16 0, .int .u16 0, .int .u16 0, .int .u16 0, .int .u16 0, .int .u16 0] 24) := ⟨_, rfl⟩
    have hb1 : Below w.heap.size w W1 := by rw [hW1]; exact ((Below.refl _ _).alloc jH _).alloc (by simp) _
    have hr1 : zgy W1 w.heap.size #[.int .i64 1, .string N, .int .u32 (v : Nat), .int .u16 (x0 : Nat), .int .u16 (x1 : Nat), .int .u16 (x2 : Nat), .int .u16 (x3 : Nat), .int .u16 (x4 : Nat), .int .u16 (x5 : Nat), .int .u16 (x6 : Nat), .int .u16 (x7 : Nat)] := by rw [hW1]; exact Row.grown0 (zat w _ _) (World.grownBy_alloc _ _ none)
    have hz1 : Row W1 (w.heap.size + 1) 24 #[.int .u16 0, .int .u16 0, .int .u16 0, .int .u16 0, .int .u16 0, .int .u16 0, .int .u16 0, .int .u16 0] := by
     rw [hW1]
     have := zat (w.alloc (.cells #[.int .i64 1, .string N, .int .u32 (v : Nat), .int .u16 (x0 : Nat), .int .u16 (x1 : Nat), .int .u16 (x2 : Nat), .int .u16 (x3 : Nat), .int .u16 (x4 : Nat), .int .u16 (x5 : Nat), .int .u16 (x6 : Nat), .int .u16 (x7 : Nat)] 26)) #[.int .u16 0, .int .u16 0, .int .u16 0, .int .u16 0, .int .u16 0, .int .u16 0, .int .u16 0, .int .u16 0] 24
     rw [World.size_alloc] at this
     exact this
    rw [<- hW1]
    clear hW1
    obtain ⟨p0, p1, p2, p3, p4, p5, p6, p7, p8, p9, p10⟩ := zfu hr1
    obtain ⟨z0, z1, z2, z3, z4, z5, z6, z7⟩ := zi9 hz1
    go_wp2_with (go_at_call 68; refine (c1 _).mono ?_; rintro e w2 ⟨rfl, hb2⟩; replace hr1 := Row.below hr1 hb2 hr1.lt; replace hz1 := Row.below hz1 hb2 hz1.lt; replace hb1 := hb1.trans (hb2.mono hb1.size); clear c1 hb2 p0 p1 p2 p3 p4 p5 p6 p7 p8 p9 p10 z0 z1 z2 z3 z4 z5 z6 z7; obtain ⟨p0, p1, p2, p3, p4, p5, p6, p7, p8, p9, p10⟩ := zfu hr1; obtain ⟨z0, z1, z2, z3, z4, z5, z6, z7⟩ := zi9 hz1)
    go_wp2
    go_ret
    exact ⟨zbx (by rw [HV.out]; simp), hb1⟩
  | true =>
    cases q2 with
    | false =>
      go_enter Tryz.func45, Tryz.ntmps45
      go_upto_region 2 with fail
      obtain ⟨W1, hW1⟩ : ∃ x, x = (w.alloc (.cells #[.int .i64 1, .string N, .int .u32 (v : Nat), .int .u16 (x0 : Nat), .int .u16 (x1 : Nat), .int .u16 (x2 : Nat), .int .u16 (x3 : Nat), .int .u16 (x4 : Nat), .int .u16 (x5 : Nat), .int .u16 (x6 : Nat), .int .u16 (x7 : Nat)] 26)).alloc (.cells #[.int .u16 0, .int .u16 0, .int .u16 0, .int .u16 0, .int .u16 0, .int .u16 0, .int .u16 0, .int .u16 0] 24) := ⟨_, rfl⟩
      have hb1 : Below w.heap.size w W1 := by rw [hW1]; exact ((Below.refl _ _).alloc jH _).alloc (by simp) _
      have hr1 : zgy W1 w.heap.size #[.int .i64 1, .string N, .int .u32 (v : Nat), .int .u16 (x0 : Nat), .int .u16 (x1 : Nat), .int .u16 (x2 : Nat), .int .u16 (x3 : Nat), .int .u16 (x4 : Nat), .int .u16 (x5 : Nat), .int .u16 (x6 : Nat), .int .u16 (x7 : Nat)] := by rw [hW1]; exact Row.grown0 (zat w _ _) (World.grownBy_alloc _ _ none)
      have hz1 : Row W1 (w.heap.size + 1) 24 #[.int .u16 0, .int .u16 0, .int .u16 0, .int .u16 0, .int .u16 0, .int .u16 0, .int .u16 0, .int .u16 0] := by
       rw [hW1]
       have := zat (w.alloc (.cells #[.int .i64 1, .string N, .int .u32 (v : Nat), .int .u16 (x0 : Nat), .int .u16 (x1 : Nat), .int .u16 (x2 : Nat), .int .u16 (x3 : Nat), .int .u16 (x4 : Nat), .int .u16 (x5 : Nat), .int .u16 (x6 : Nat), .int .u16 (x7 : Nat)] 26)) #[.int .u16 0, .int .u16 0, .int .u16 0, .int .u16 0, .int .u16 0, .int .u16 0, .int .u16 0, .int .u16 0] 24
       rw [World.size_alloc] at this
       exact this
      rw [<- hW1]
      clear hW1
      obtain ⟨p0, p1, p2, p3, p4, p5, p6, p7, p8, p9, p10⟩ := zfu hr1
      obtain ⟨z0, z1, z2, z3, z4, z5, z6, z7⟩ := zi9 hz1
      go_wp2_with (go_at_call 68; refine (c1 _).mono ?_; rintro e w2 ⟨rfl, hb2⟩; replace hr1 := Row.below hr1 hb2 hr1.lt; replace hz1 := Row.below hz1 hb2 hz1.lt; replace hb1 := hb1.trans (hb2.mono hb1.size); clear c1 hb2 p0 p1 p2 p3 p4 p5 p6 p7 p8 p9 p10 z0 z1 z2 z3 z4 z5 z6 z7; obtain ⟨p0, p1, p2, p3, p4, p5, p6, p7, p8, p9, p10⟩ := zfu hr1; obtain ⟨z0, z1, z2, z3, z4, z5, z6, z7⟩ := zi9 hz1)
      go_wp2
      go_ret
      exact ⟨zbx (by rw [HV.out]; simp), hb1⟩
    | true =>
      go_enter Tryz.func45, Tryz.ntmps45
      go_upto_region 2 with fail
      obtain ⟨W1, hW1⟩ : ∃ x, x = (w.alloc (.cells #[.int .i64 1, .string N, .int .u32 (v : Nat), .int .u16 (x0 : Nat), .int .u16 (x1 : Nat), .int .u16 (x2 : Nat), .int .u16 (x3 : Nat), .int .u16 (x4 : Nat), .int .u16 (x5 : Nat), .int .u16 (x6 : Nat), .int .u16 (x7 : Nat)] 26)).alloc (.cells #[.int .u16 0, .int .u16 0, .int .u16 0, .int .u16 0, .int .u16 0, .int .u16 0, .int .u16 0, .int .u16 0] 24) := ⟨_, rfl⟩
      have hb1 : Below w.heap.size w W1 := by rw [hW1]; exact ((Below.refl _ _).alloc jH _).alloc (by simp) _
      have hr1 : zgy W1 w.heap.size #[.int .i64 1, .string N, .int .u32 (v : Nat), .int .u16 (x0 : Nat), .int .u16 (x1 : Nat), .int .u16 (x2 : Nat), .int .u16 (x3 : Nat), .int .u16 (x4 : Nat), .int .u16 (x5 : Nat), .int .u16 (x6 : Nat), .int .u16 (x7 : Nat)] := by rw [hW1]; exact Row.grown0 (zat w _ _) (World.grownBy_alloc _ _ none)
      have hz1 : Row W1 (w.heap.size + 1) 24 #[.int .u16 0, .int .u16 0, .int .u16 0, .int .u16 0, .int .u16 0, .int .u16 0, .int .u16 0, .int .u16 0] := by
       rw [hW1]
       have := zat (w.alloc (.cells #[.int .i64 1, .string N, .int .u32 (v : Nat), .int .u16 (x0 : Nat), .int .u16 (x1 : Nat), .int .u16 (x2 : Nat), .int .u16 (x3 : Nat), .int .u16 (x4 : Nat), .int .u16 (x5 : Nat), .int .u16 (x6 : Nat), .int .u16 (x7 : Nat)] 26)) #[.int .u16 0, .int .u16 0, .int .u16 0, .int .u16 0, .int .u16 0, .int .u16 0, .int .u16 0, .int .u16 0] 24
       rw [World.size_alloc] at this
       exact this
      rw [<- hW1]
      clear hW1
      obtain ⟨p0, p1, p2, p3, p4, p5, p6, p7, p8, p9, p10⟩ := zfu hr1
      obtain ⟨z0, z1, z2, z3, z4, z5, z6, z7⟩ := zi9 hz1
      go_wp2_with (go_at_call 68; refine (c1 _).mono ?_; rintro e w2 ⟨rfl, hb2⟩; replace hr1 := Row.below hr1 hb2 hr1.lt; replace hz1 := Row.below hz1 hb2 hz1.lt; replace hb1 := hb1.trans (hb2.mono hb1.size); clear c1 hb2 p0 p1 p2 p3 p4 p5 p6 p7 p8 p9 p10 z0 z1 z2 z3 z4 z5 z6 z7; obtain ⟨p0, p1, p2, p3, p4, p5, p6, p7, p8, p9, p10⟩ := zfu hr1; obtain ⟨z0, z1, z2, z3, z4, z5, z6, z7⟩ := zi9 hz1)
      go_wp2
      go_ret
      exact ⟨zbx (by rw [HV.out]; simp), hb1⟩
 ·by_cases k2 : k = 2
  ·subst k2
   have HV : Hid (zhx ⟨2, n, v, [x0, x1, x2, x3, x4, x5, x6, x7]⟩ = (q4 && q3)) := by
    show _ = _
    rw [HV0.out, if_neg (by decide), if_pos rfl]
   clear HV0
   clear c1 k1
   cases q4 with
   | false =>
     go_enter Tryz.func45, Tryz.ntmps45
     go_upto_region 2 with fail
     obtain ⟨W1, hW1⟩ : ∃ x, x = (w.alloc (.cells #[.int .i64 2, .string N, .int .u32 (v : Nat), .int .u16 (x0 : Nat), .int .u16 (x1 : Nat), .int .u16 (x2 : Nat), .int .u16 (x3 : Nat), .int .u16 (x4 : Nat), .int .u16 (x5 : Nat), .int .u16 (x6 : Nat), .int .u16 (x7 : Nat)] 26)).alloc (.cells #[.int .u16 0, .int .u16 0, .int .u16 0, .int .u16 0, .int .u16 0, .int .u16 0, .int .u16 0, .int .u16 0] 24) := ⟨_, rfl⟩
     have hb1 : Below w.heap.size w W1 := by rw [hW1]; exact ((Below.refl _ _).alloc jH _).alloc (by simp) _
     have hr1 : zgy W1 w.heap.size #[.int .i64 2, .string N, .int .u32 (v : Nat), .int .u16 (x0 : Nat), .int .u16 (x1 : Nat), .int .u16 (x2 : Nat), .int .u16 (x3 : Nat), .int .u16 (x4 : Nat), .int .u16 (x5 : Nat), .int .u16 (x6 : Nat), .int .u16 (x7 : Nat)] := by rw [hW1]; exact Row.grown0 (zat w _ _) (World.grownBy_alloc _ _ none)
     have hz1 : Row W1 (w.heap.size + 1) 24 #[.int .u16 0, .int .u16 0, .int .u16 0, .int .u16 0, .int .u16 0, .int .u16 0, .int .u16 0, .int .u16 0] := by
      rw [hW1]
      have := zat (w.alloc (.cells #[.int .i64 2, .string N, .int .u32 (v : Nat), .int .u16 (x0 : Nat), .int .u16 (x1 : Nat), .int .u16 (x2 : Nat), .int .u16 (x3 : Nat), .int .u16 (x4 : Nat), .int .u16 (x5 : Nat), .int .u16 (x6 : Nat), .int .u16 (x7 : Nat)] 26)) #[.int .u16 0, .int .u16 0, .int .u16 0, .int .u16 0, .int .u16 0, .int .u16 0, .int .u16 0, .int .u16 0] 24
      rw [World.size_alloc] at this
      exact this
     rw [<- hW1]
     clear hW1
     obtain ⟨p0, p1, p2, p3, p4, p5, p6, p7, p8, p9, p10⟩ := zfu hr1
     obtain ⟨z0, z1, z2, z3, z4, z5, z6, z7⟩ := zi9 hz1
     go_wp2
     go_ret
     exact ⟨zbx (by rw [HV.out]; simp), hb1⟩
   | true =>
     go_enter Tryz.func45, Tryz.ntmps45
     go_upto_region 2 with fail
     obtain ⟨W1, hW1⟩ : ∃ x, x = (w.alloc (.cells #[.int .i64 2, .string N, .int .u32 (v : Nat), .int .u16 (x0 : Nat), .int .u16 (x1 : Nat), .int .u16 (x2 : Nat), .int .u16 (x3 : Nat), .int .u16 (x4 : Nat), .int .u16 (x5 : Nat), .int .u16 (x6 : Nat), .int .u16 (x7 : Nat)] 26)).alloc (.cells #[.int .u16 0, .int .u16 0, .int .u16 0, .int .u16 0, .int .u16 0, .int .u16 0, .int .u16 0, .int .u16 0] 24) := ⟨_, rfl⟩
     have hb1 : Below w.heap.size w W1 := by rw [hW1]; exact ((Below.refl _ _).alloc jH _).alloc (by simp) _
     have hr1 : zgy W1 w.heap.size #[.int .i64 2, .string N, .int .u32 (v : Nat), .int .u16 (x0 : Nat), .int .u16 (x1 : Nat), .int .u16 (x2 : Nat), .int .u16 (x3 : Nat), .int .u16 (x4 : Nat), .int .u16 (x5 : Nat), .int .u16 (x6 : Nat), .int .u16 (x7 : Nat)] := by rw [hW1]; exact Row.grown0 (zat w _ _) (World.grownBy_alloc _ _ none)
     have hz1 : Row W1 (w.heap.size + 1) 24 #[.int .u16 0, .int .u16 0, .int .u16 0, .int .u16 0, .int .u16 0, .int .u16 0, .int .u16 0, .int .u16 0] := by
      rw [hW1]
      have := zat (w.alloc (.cells #[.int .i64 2, .string N, .int .u32 (v : Nat), .int .u16 (x0 : Nat), .int .u16 (x1 : Nat), .int .u16 (x2 : Nat), .int .u16 (x3 : Nat), .int .u16 (x4 : Nat), .int .u16 (x5 : Nat), .int .u16 (x6 : Nat), .int .u16 (x7 : Nat)] 26)) #[.int .u16 0, .int .u16 0, .int .u16 0, .int .u16 0, .int .u16 0, .int .u16 0, .int .u16 0, .int .u16 0] 24
      rw [World.size_alloc] at this
      exact this
     rw [<- hW1]
     clear hW1
     obtain ⟨p0, p1, p2, p3, p4, p5, p6, p7, p8, p9, p10⟩ := zfu hr1
     obtain ⟨z0, z1, z2, z3, z4, z5, z6, z7⟩ := zi9 hz1
     go_wp2
     go_ret
     exact ⟨zbx (by rw [HV.out]; simp), hb1⟩
  ·by_cases k3 : k = 3
   ·subst k3
    have HV : Hid (zhx ⟨3, n, v, [x0, x1, x2, x3, x4, x5, x6, x7]⟩ = (q4 && q2)) := by
     show _ = _
     rw [HV0.out, if_neg (by decide), if_neg (by decide), if_pos rfl]
    clear HV0
    clear c1 k1 k2
    cases q4 with
    | false =>
      go_enter Tryz.func45, Tryz.ntmps45
      go_upto_region 2 with fail
      obtain ⟨W1, hW1⟩ : ∃ x, x = (w.alloc (.cells #[.int .i64 3, .string N, .int .u32 (v : Nat), .int .u16 (x0 : Nat), .int .u16 (x1 : Nat), .int .u16 (x2 : Nat), .int .u16 (x3 : Nat), .int .u16 (x4 : Nat), .int .u16 (x5 : Nat), .int .u16 (x6 : Nat), .int .u16 (x7 : Nat)] 26)).alloc (.cells #[.int .u16 0, .int .u16 0, .int .u16 0, .int .u16 0, .int .u16 0, .int .u16 0, .int .u16 0, .int .u16 0] 24) := ⟨_, rfl⟩
      have hb1 : Below w.heap.size w W1 := by rw [hW1]; exact ((Below.refl _ _).alloc jH _).alloc (by simp) _
      have hr1 : zgy W1 w.heap.size #[.int .i64 3, .string N, .int .u32 (v : Nat), .int .u16 (x0 : Nat), .int .u16 (x1 : Nat), .int .u16 (x2 : Nat), .int .u16 (x3 : Nat), .int .u16 (x4 : Nat), .int .u16 (x5 : Nat), .int .u16 (x6 : Nat), .int .u16 (x7 : Nat)] := by rw [hW1]; exact Row.grown0 (zat w _ _) (World.grownBy_alloc _ _ none)
      have hz1 : Row W1 (w.heap.size + 1) 24 #[.int .u16 0, .int .u16 0, .int .u16 0, .int .u16 0, .int .u16 0, .int .u16 0, .int .u16 0, .int .u16 0] := by
       rw [hW1]
       have := zat (w.alloc (.cells #[.int .i64 3, .string N, .int .u32 (v : Nat), .int .u16 (x0 : Nat), .int .u16 (x1 : Nat), .int .u16 (x2 : Nat), .int .u16 (x3 : Nat), .int .u16 (x4 : Nat), .int .u16 (x5 : Nat), .int .u16 (x6 : Nat), .int .u16 (x7 : Nat)] 26)) #[.int .u16 0, .int .u16 0, .int .u16 0, .int .u16 0, .int .u16 0, .int .u16 0, .int .u16 0, .int .u16 0] 24
       rw [World.size_alloc] at this
       exact this
      rw [<- hW1]
      clear hW1
      obtain ⟨p0, p1, p2, p3, p4, p5, p6, p7, p8, p9, p10⟩ := zfu hr1
      obtain ⟨z0, z1, z2, z3, z4, z5, z6, z7⟩ := zi9 hz1
      go_wp2
      go_ret
      exact ⟨zbx (by rw [HV.out]; simp), hb1⟩
    | true =>
      go_enter Tryz.func45, Tryz.ntmps45
      go_upto_region 2 with fail
      obtain ⟨W1, hW1⟩ : ∃ x, x = (w.alloc (.cells #[.int .i64 3, .string N, .int .u32 (v : Nat), .int .u16 (x0 : Nat), .int .u16 (x1 : Nat), .int .u16 (x2 : Nat), .int .u16 (x3 : Nat), .int .u16 (x4 : Nat), .int .u16 (x5 : Nat), .int .u16 (x6 : Nat), .int .u16 (x7 : Nat)] 26)).alloc (.cells #[.int .u16 0, .int .u16 0, .int .u16 0, .int .u16 0, .int .u16 0, .int .u16 0, .int .u16 0, .int .u16 0] 24) := ⟨_, rfl⟩
      have hb1 : Below w.heap.size w W1 := by rw [hW1]; exact ((Below.refl _ _).alloc jH _).alloc (by simp) _
      have hr1 : zgy W1 w.heap.size #[.int .i64 3, .string N, .int .u32 (v : Nat), .int .u16 (x0 : Nat), .int .u16 (x1 : Nat), .int .u16 (x2 : Nat), .int .u16 (x3 : Nat), .int .u16 (x4 : Nat), .int .u16 (x5 : Nat), .int .u16 (x6 : Nat), .int .u16 (x7 : Nat)] := by rw [hW1]; exact Row.grown0 (zat w _ _) (World.grownBy_alloc _ _ none)
      have hz1 : Row W1 (w.heap.size + 1) 24 #[.int .u16 0, .int .u16 0, .int .u16 0, .int .u16 0, .int .u16 0, .int .u16 0, .int .u16 0, .int .u16 0] := by
       rw [hW1]
       have := zat (w.alloc (.cells #[.int .i64 3, .string N, .int .u32 (v : Nat), .int .u16 (x0 : Nat), .int .u16 (x1 : Nat), .int .u16 (x2 : Nat), .int .u16 (x3 : Nat), .int .u16 (x4 : Nat), .int .u16 (x5 : Nat), .int .u16 (x6 : Nat), .int .u16 (x7 : Nat)] 26)) #[.int .u16 0, .int .u16 0, .int .u16 0, .int .u16 0, .int .u16 0, .int .u16 0, .int .u16 0, .int .u16 0] 24
       rw [World.size_alloc] at this
       exact this
      rw [<- hW1]
      clear hW1
      obtain ⟨p0, p1, p2, p3, p4, p5, p6, p7, p8, p9, p10⟩ := zfu hr1
      obtain ⟨z0, z1, z2, z3, z4, z5, z6, z7⟩ := zi9 hz1
      go_wp2
      go_ret
      exact ⟨zbx (by rw [HV.out]; simp), hb1⟩
   ·skip
    have HV : Hid (zhx ⟨k, n, v, [x0, x1, x2, x3, x4, x5, x6, x7]⟩ = false) := by
     show _ = _
     rw [HV0.out, if_neg k1, if_neg k2, if_neg k3]
    clear HV0
    have t1 : (k == 1) = false := by rw [beq_eq_false_iff_ne]; assumption
    have t2 : (k == 2) = false := by rw [beq_eq_false_iff_ne]; assumption
    have t3 : (k == 3) = false := by rw [beq_eq_false_iff_ne]; assumption
    clear c1 k1 k2 k3
    go_enter Tryz.func45, Tryz.ntmps45
    go_upto_region 2 with fail
    obtain ⟨W1, hW1⟩ : ∃ x, x = (w.alloc (.cells #[.int .i64 k, .string N, .int .u32 (v : Nat), .int .u16 (x0 : Nat), .int .u16 (x1 : Nat), .int .u16 (x2 : Nat), .int .u16 (x3 : Nat), .int .u16 (x4 : Nat), .int .u16 (x5 : Nat), .int .u16 (x6 : Nat), .int .u16 (x7 : Nat)] 26)).alloc (.cells #[.int .u16 0, .int .u16 0, .int .u16 0, .int .u16 0, .int .u16 0, .int .u16 0, .int .u16 0, .int .u16 0] 24) := ⟨_, rfl⟩
    have hb1 : Below w.heap.size w W1 := by rw [hW1]; exact ((Below.refl _ _).alloc jH _).alloc (by simp) _
    have hr1 : zgy W1 w.heap.size #[.int .i64 k, .string N, .int .u32 (v : Nat), .int .u16 (x0 : Nat), .int .u16 (x1 : Nat), .int .u16 (x2 : Nat), .int .u16 (x3 : Nat), .int .u16 (x4 : Nat), .int .u16 (x5 : Nat), .int .u16 (x6 : Nat), .int .u16 (x7 : Nat)] := by rw [hW1]; exact Row.grown0 (zat w _ _) (World.grownBy_alloc _ _ none)
    have hz1 : Row W1 (w.heap.size + 1) 24 #[.int .u16 0, .int .u16 0, .int .u16 0, .int .u16 0, .int .u16 0, .int .u16 0, .int .u16 0, .int .u16 0] := by
     rw [hW1]
     have := zat (w.alloc (.cells #[.int .i64 k, .string N, .int .u32 (v : Nat), .int .u16 (x0 : Nat), .int .u16 (x1 : Nat), .int .u16 (x2 : Nat), .int .u16 (x3 : Nat), .int .u16 (x4 : Nat), .int .u16 (x5 : Nat), .int .u16 (x6 : Nat), .int .u16 (x7 : Nat)] 26)) #[.int .u16 0, .int .u16 0, .int .u16 0, .int .u16 0, .int .u16 0, .int .u16 0, .int .u16 0, .int .u16 0] 24
     rw [World.size_alloc] at this
     exact this
    rw [<- hW1]
    clear hW1
    obtain ⟨p0, p1, p2, p3, p4, p5, p6, p7, p8, p9, p10⟩ := zfu hr1
    obtain ⟨z0, z1, z2, z3, z4, z5, z6, z7⟩ := zi9 hz1
    go_wp2
    go_ret
    exact ⟨zbx (by rw [HV.out]), hb1⟩
set_option maxRecDepth 20000 in
theorem zjb (hVal : zft 45) (hF4 : zf8 70) (hF6 : zk0 71) : zf9 49 := by
 intro h w hw hn hp6
 cases hval : zhx h with
 | false =>
   rw [zgb hval]
   obtain ⟨k, n, v, g⟩ := h
   obtain ⟨x0, x1, x2, x3, x4, x5, x6, x7, rfl⟩ := zf5 g hw.2.1
   have c1 := fun W => hVal ⟨k, n, v, [x0, x1, x2, x3, x4, x5, x6, x7]⟩ W hw hn
   rw [hval] at c1
   have eV : (Hv.mk k n v [x0, x1, x2, x3, x4, x5, x6, x7]).val = .agg #[.int .i64 k, .string (bs n), .int .u32 (v : Nat), .int .u16 (x0 : Nat), .int .u16 (x1 : Nat), .int .u16 (x2 : Nat), .int .u16 (x3 : Nat), .int .u16 (x4 : Nat), .int .u16 (x5 : Nat), .int .u16 (x6 : Nat), .int .u16 (x7 : Nat)] := rfl
   rw [eV] at c1 ⊢
   have hr : zgy (w.alloc (.cells #[.int .i64 k, .string (bs n), .int .u32 (v : Nat), .int .u16 (x0 : Nat), .int .u16 (x1 : Nat), .int .u16 (x2 : Nat), .int .u16 (x3 : Nat), .int .u16 (x4 : Nat), .int .u16 (x5 : Nat), .int .u16 (x6 : Nat), .int .u16 (x7 : Nat)] 26)) w.heap.size _ := zat w _ _
   generalize bs n = N at *
   clear eV hval hw hn hp6
   go_enter Tryz.func49, Tryz.ntmps49
   go_wp2_with (refine zg0 rfl _ rfl w.heap.size (by exact rfl) _ hr rfl ?_)
   refine (c1 _).mono ?_
   rintro e w1 ⟨rfl, hb1⟩
   replace hb1 := ((Below.refl _ w).alloc jH _).trans (hb1.mono (by simp))
   go_wp2
   go_ret
   exact ⟨rfl, hb1⟩
 | true =>
   rw [zgc hval]
   rcases zil hval with ⟨_, e⟩ | e | e
   ·obtain ⟨n, hn1⟩ : ∃ n, n = h.name := ⟨_, rfl⟩
    rw [<- hn1] at e
    subst e
    have c1 := fun W => hVal (hvD n) W hw hn
    rw [hval] at c1
    have eV : (hvD n).val = .agg #[.int .i64 1, .string (bs n), .int .u32 0, .int .u16 0, .int .u16 0, .int .u16 0, .int .u16 0, .int .u16 0, .int .u16 0, .int .u16 0, .int .u16 0] := rfl
    have eT : zhy (hvD n) = n := rfl
    rw [eT]
    rw [eV] at c1 ⊢
    have hr : zgy (w.alloc (.cells #[.int .i64 1, .string (bs n), .int .u32 0, .int .u16 0, .int .u16 0, .int .u16 0, .int .u16 0, .int .u16 0, .int .u16 0, .int .u16 0, .int .u16 0] 26)) w.heap.size _ := zat w _ _
    clear hn1
    generalize bs n = N at *
    clear eV hval hw hn hp6
    go_enter Tryz.func49, Tryz.ntmps49
    go_wp2_with (refine zg0 rfl _ rfl w.heap.size (by exact rfl) _ hr rfl ?_)
    refine (c1 _).mono ?_
    rintro e w1 ⟨rfl, hb1⟩
    have hr1 := Row.below hr hb1 hr.lt
    replace hb1 := ((Below.refl _ w).alloc jH _).trans (hb1.mono (by simp))
    have p0 := Row.cell hr1 (k := 0) (by simp)
    have p1 := Row.cell hr1 (k := 1) (by simp)
    simp only [List.getElem_toArray, List.getElem_cons_zero, List.getElem_cons_succ] at p0 p1
    go_wp2
    go_ret
    exact ⟨rfl, hb1⟩
   ·obtain ⟨v, hv1⟩ : ∃ v, v = h.v4 := ⟨_, rfl⟩
    rw [<- hv1] at e
    subst e
    have c1 := fun W => hVal (hv4 v) W hw hn
    rw [hval] at c1
    have eV : (hv4 v).val = .agg #[.int .i64 2, .string ⟨#[]⟩, .int .u32 (v : Nat), .int .u16 0, .int .u16 0, .int .u16 0, .int .u16 0, .int .u16 0, .int .u16 0, .int .u16 0, .int .u16 0] := rfl
    have eT : zhy (hv4 v) = zqp v := rfl
    rw [eT]
    rw [eV] at c1 ⊢
    have hr : zgy (w.alloc (.cells #[.int .i64 2, .string ⟨#[]⟩, .int .u32 (v : Nat), .int .u16 0, .int .u16 0, .int .u16 0, .int .u16 0, .int .u16 0, .int .u16 0, .int .u16 0, .int .u16 0] 26)) w.heap.size _ := zat w _ _
    have hv9 : v < 4294967296 := hw.1
    have c2 := fun W hW => hF4 (v : Nat) (by omega) (by omega) W hW
    simp only [show ((v : Nat) : Int).toNat = v from rfl] at c2
    generalize bs (zqp v) = N at *
    have HP := jL hp6
    clear eV hval hw hn hp6 hv1
    go_enter Tryz.func49, Tryz.ntmps49
    go_wp2_with (refine zg0 rfl _ rfl w.heap.size (by exact rfl) _ hr rfl ?_)
    refine (c1 _).mono ?_
    rintro e w1 ⟨rfl, hb1⟩
    have hr1 := Row.below hr hb1 hr.lt
    replace hb1 := ((Below.refl _ w).alloc jH _).trans (hb1.mono (by simp))
    have p0 := Row.cell hr1 (k := 0) (by simp)
    have p2 := Row.cell hr1 (k := 2) (by simp)
    simp only [List.getElem_toArray, List.getElem_cons_zero, List.getElem_cons_succ] at p0 p2
    have c3 := c2 w1 (zw7 HP.out hb1).1
    go_wp2_with fail
    refine c3.mono ?_
    rintro e w2 ⟨rfl, hb2⟩
    go_wp2
    go_ret
    exact ⟨rfl, hb1.trans (hb2.mono hb1.size)⟩
   ·obtain ⟨g, hg1⟩ : ∃ g, g = h.v6 := ⟨_, rfl⟩
    rw [<- hg1] at e
    subst e
    have hg8 : g.length = 8 := hw.2.1
    have c2 := fun W hW => hF6 g hg8 hw.2.2 W hW
    obtain ⟨x0, x1, x2, x3, x4, x5, x6, x7, rfl⟩ := zf5 g hg8
    have c1 := fun W => hVal (hv6 [x0, x1, x2, x3, x4, x5, x6, x7]) W hw hn
    rw [hval] at c1
    have eV : (hv6 [x0, x1, x2, x3, x4, x5, x6, x7]).val = .agg #[.int .i64 3, .string ⟨#[]⟩, .int .u32 0, .int .u16 (x0 : Nat), .int .u16 (x1 : Nat), .int .u16 (x2 : Nat), .int .u16 (x3 : Nat), .int .u16 (x4 : Nat), .int .u16 (x5 : Nat), .int .u16 (x6 : Nat), .int .u16 (x7 : Nat)] := rfl
    have eT : zhy (hv6 [x0, x1, x2, x3, x4, x5, x6, x7]) = 91 :: (zn0 [x0, x1, x2, x3, x4, x5, x6, x7] ++ [93]) := rfl
    have e1 : av [x0, x1, x2, x3, x4, x5, x6, x7] = #[.int .u16 (x0 : Nat), .int .u16 (x1 : Nat), .int .u16 (x2 : Nat), .int .u16 (x3 : Nat), .int .u16 (x4 : Nat), .int .u16 (x5 : Nat), .int .u16 (x6 : Nat), .int .u16 (x7 : Nat)] := rfl
    rw [eT]
    rw [eV] at c1 ⊢
    simp only [e1] at c2
    have hr : zgy (w.alloc (.cells #[.int .i64 3, .string ⟨#[]⟩, .int .u32 0, .int .u16 (x0 : Nat), .int .u16 (x1 : Nat), .int .u16 (x2 : Nat), .int .u16 (x3 : Nat), .int .u16 (x4 : Nat), .int .u16 (x5 : Nat), .int .u16 (x6 : Nat), .int .u16 (x7 : Nat)] 26)) w.heap.size _ := zat w _ _
    have HF : Hid (bs (91 :: (zn0 [x0, x1, x2, x3, x4, x5, x6, x7] ++ [93])) = (⟨#[91]⟩ : ByteArray) ++ bs (zn0 [x0, x1, x2, x3, x4, x5, x6, x7]) ++ ⟨#[93]⟩) := by
     show _ = _
     refine zb2 ?_
     rw [zb6, zb6, zb0, zb0]
     rfl
    have hN9 : (bs (zn0 [x0, x1, x2, x3, x4, x5, x6, x7])).size <= 82 := by rw [zb5]; exact zga hw.2.2
    rw [HF.out]
    generalize bs (zn0 [x0, x1, x2, x3, x4, x5, x6, x7]) = N at *
    have HP := jL hp6
    clear eV hval hw hn hp6 hg1 HF eT hg8 e1
    go_enter Tryz.func49, Tryz.ntmps49
    go_wp2_with (refine zg0 rfl _ rfl w.heap.size (by exact rfl) _ hr rfl ?_)
    refine (c1 _).mono ?_
    rintro e w1 ⟨rfl, hb1⟩
    have hr1 := Row.below hr hb1 hr.lt
    replace hb1 := ((Below.refl _ w).alloc jH _).trans (hb1.mono (by simp))
    obtain ⟨p0, p1, p2, p3, p4, p5, p6, p7, p8, p9, p10⟩ := zfu (k := 3) (N := ⟨#[]⟩) (v := 0) hr1
    have c3 := c2 w1 (zw7 HP.out hb1)
    go_wp2_with fail
    refine c3.mono ?_
    rintro e w2 ⟨rfl, hb2⟩
    go_wp2
    go_ret
    exact ⟨rfl, hb1.trans (hb2.mono hb1.size)⟩
theorem zjc : zf9 49 :=
 zjb zja (fun v h0 h1 w _ => zqc v h0 h1 w) (fun a ha hg w _ => zky a ha hg w)
end

section
open Go.RowKit Go.Shelf
set_option maxHeartbeats 16000000
end

section
open Go.RowKit Go.Shelf
set_option maxHeartbeats 16000000
set_option maxRecDepth 20000 in
theorem zvj (hVal : zft 43) (hCov : zd4 44) (h : Hv) (w : World) (hw : h.Wf) (hn : h.name.length <= 1000000000) :
 Calls Tryz.prog 25 #[h.val] w fun e w' => e = .returned (.bool (zv5 h)) /\ Below w.heap.size w w' := by
 cases hval : zhx h with
 | false =>
   have e9 : zv5 h = false := by unfold zv5; rw [hval]; rfl
   rw [e9]
   obtain ⟨k, n, v, g⟩ := h
   obtain ⟨x0, x1, x2, x3, x4, x5, x6, x7, rfl⟩ := zf5 g hw.2.1
   have c1 := fun W => hVal ⟨k, n, v, [x0, x1, x2, x3, x4, x5, x6, x7]⟩ W hw hn
   rw [hval] at c1
   have eV : (Hv.mk k n v [x0, x1, x2, x3, x4, x5, x6, x7]).val = .agg #[.int .i64 k, .string (bs n), .int .u32 (v : Nat), .int .u16 (x0 : Nat), .int .u16 (x1 : Nat), .int .u16 (x2 : Nat), .int .u16 (x3 : Nat), .int .u16 (x4 : Nat), .int .u16 (x5 : Nat), .int .u16 (x6 : Nat), .int .u16 (x7 : Nat)] := rfl
   rw [eV] at c1 ⊢
   have hr : zgy (w.alloc (.cells #[.int .i64 k, .string (bs n), .int .u32 (v : Nat), .int .u16 (x0 : Nat), .int .u16 (x1 : Nat), .int .u16 (x2 : Nat), .int .u16 (x3 : Nat), .int .u16 (x4 : Nat), .int .u16 (x5 : Nat), .int .u16 (x6 : Nat), .int .u16 (x7 : Nat)] 26)) w.heap.size _ := zat w _ _
   generalize bs n = N at *
   clear eV hval hw hn e9
   go_enter Tryz.func25, Tryz.ntmps25
   go_wp2_with (refine zg0 rfl _ rfl w.heap.size (by exact rfl) _ hr rfl ?_)
   refine (c1 _).mono ?_
   rintro e w1 ⟨rfl, hb1⟩
   have hr1 := Row.below hr hb1 hr.lt
   replace hb1 := ((Below.refl _ w).alloc jH _).trans (hb1.mono (by simp))
   go_wp2
   go_ret
   exact ⟨rfl, hb1⟩
 | true =>
   rcases zil hval with ⟨_, e⟩ | e | e
   ·obtain ⟨n, hn1⟩ : ∃ n, n = h.name := ⟨_, rfl⟩
    rw [<- hn1] at e
    subst e
    have c1 := fun W => hVal (hvD n) W hw hn
    have e9 : zv5 (hvD n) = ziy zv0 n := by unfold zv5; rw [hval]; rfl
    rw [e9]
    rw [hval] at c1
    have eV : (hvD n).val = .agg #[.int .i64 1, .string (bs n), .int .u32 0, .int .u16 0, .int .u16 0, .int .u16 0, .int .u16 0, .int .u16 0, .int .u16 0, .int .u16 0, .int .u16 0] := rfl
    rw [eV] at c1 ⊢
    have hr : zgy (w.alloc (.cells #[.int .i64 1, .string (bs n), .int .u32 0, .int .u16 0, .int .u16 0, .int .u16 0, .int .u16 0, .int .u16 0, .int .u16 0, .int .u16 0, .int .u16 0] 26)) w.heap.size _ := zat w _ _
    have c2 := fun W => hCov ⟨#[108, 111, 99, 97, 108, 104, 111, 115, 116]⟩ (bs n) W (by decide) (by rw [zb5]; exact hn)
    simp only [show ls ⟨#[108, 111, 99, 97, 108, 104, 111, 115, 116]⟩ = zv0 from rfl, zb0] at c2
    clear hn1 e9
    generalize ziy zv0 n = q at *
    generalize bs n = N at *
    clear eV hval hw hn
    go_enter Tryz.func25, Tryz.ntmps25
    go_wp2_with (refine zg0 rfl _ rfl w.heap.size (by exact rfl) _ hr rfl ?_)
    refine (c1 _).mono ?_
    rintro e w1 ⟨rfl, hb1⟩
    have hr1 := Row.below hr hb1 hr.lt
    replace hb1 := ((Below.refl _ w).alloc jH _).trans (hb1.mono (by simp))
    have p0 := Row.cell hr1 (k := 0) (by simp)
    have p1 := Row.cell hr1 (k := 1) (by simp)
    simp only [List.getElem_toArray, List.getElem_cons_zero, List.getElem_cons_succ] at p0 p1
    go_wp2_with fail
    refine (c2 _).mono ?_
    rintro e w2 ⟨rfl, hb2⟩
    go_wp2
    go_ret
    exact ⟨rfl, hb1.trans (hb2.mono hb1.size)⟩
   ·obtain ⟨v, hv1⟩ : ∃ v, v = h.v4 := ⟨_, rfl⟩
    rw [<- hv1] at e
    subst e
    have c1 := fun W => hVal (hv4 v) W hw hn
    have e9 : zv5 (hv4 v) = decide ((v : Int) / 16777216 = 127) := by
     unfold zv5
     rw [hval]
     show (true && (v / 16777216 == 127)) = _
     rw [Bool.true_and, Bool.eq_iff_iff]
     simp
     omega
    rw [e9]
    rw [hval] at c1
    have eV : (hv4 v).val = .agg #[.int .i64 2, .string ⟨#[]⟩, .int .u32 (v : Nat), .int .u16 0, .int .u16 0, .int .u16 0, .int .u16 0, .int .u16 0, .int .u16 0, .int .u16 0, .int .u16 0] := rfl
    rw [eV] at c1 ⊢
    have hr : zgy (w.alloc (.cells #[.int .i64 2, .string ⟨#[]⟩, .int .u32 (v : Nat), .int .u16 0, .int .u16 0, .int .u16 0, .int .u16 0, .int .u16 0, .int .u16 0, .int .u16 0, .int .u16 0] 26)) w.heap.size _ := zat w _ _
    have hv9 : v < 4294967296 := hw.1
    clear eV hval hw hn hv1 e9
    go_enter Tryz.func25, Tryz.ntmps25
    go_wp2_with (refine zg0 rfl _ rfl w.heap.size (by exact rfl) _ hr rfl ?_)
    refine (c1 _).mono ?_
    rintro e w1 ⟨rfl, hb1⟩
    have hr1 := Row.below hr hb1 hr.lt
    replace hb1 := ((Below.refl _ w).alloc jH _).trans (hb1.mono (by simp))
    have p0 := Row.cell hr1 (k := 0) (by simp)
    have p2 := Row.cell hr1 (k := 2) (by simp)
    simp only [List.getElem_toArray, List.getElem_cons_zero, List.getElem_cons_succ] at p0 p2
    go_wp2
    go_ret
    exact ⟨zbx (by first | rfl | (rw [Bool.eq_iff_iff]; simp)), hb1⟩
   ·obtain ⟨g, hg1⟩ : ∃ g, g = h.v6 := ⟨_, rfl⟩
    rw [<- hg1] at e
    subst e
    have hg8 : g.length = 8 := hw.2.1
    have heq := zk3 g [0, 0, 0, 0, 0, 0, 0, 1] hg8 rfl
    obtain ⟨x0, x1, x2, x3, x4, x5, x6, x7, rfl⟩ := zf5 g hg8
    have c1 := fun W => hVal (hv6 [x0, x1, x2, x3, x4, x5, x6, x7]) W hw hn
    have e9 : zv5 (hv6 [x0, x1, x2, x3, x4, x5, x6, x7]) = decide ([x0, x1, x2, x3, x4, x5, x6, x7] = [0, 0, 0, 0, 0, 0, 0, 1]) := by
     unfold zv5
     rw [hval]
     show (true && ([x0, x1, x2, x3, x4, x5, x6, x7] == [0, 0, 0, 0, 0, 0, 0, 1])) = _
     rw [Bool.true_and, Bool.eq_iff_iff]
     simp
    rw [e9]
    rw [hval] at c1
    have eV : (hv6 [x0, x1, x2, x3, x4, x5, x6, x7]).val = .agg #[.int .i64 3, .string ⟨#[]⟩, .int .u32 0, .int .u16 (x0 : Nat), .int .u16 (x1 : Nat), .int .u16 (x2 : Nat), .int .u16 (x3 : Nat), .int .u16 (x4 : Nat), .int .u16 (x5 : Nat), .int .u16 (x6 : Nat), .int .u16 (x7 : Nat)] := rfl
    rw [eV] at c1 ⊢
    rw [show av [x0, x1, x2, x3, x4, x5, x6, x7] = #[.int .u16 (x0 : Nat), .int .u16 (x1 : Nat), .int .u16 (x2 : Nat), .int .u16 (x3 : Nat), .int .u16 (x4 : Nat), .int .u16 (x5 : Nat), .int .u16 (x6 : Nat), .int .u16 (x7 : Nat)] from rfl, show av [0, 0, 0, 0, 0, 0, 0, 1] = #[.int .u16 0, .int .u16 0, .int .u16 0, .int .u16 0, .int .u16 0, .int .u16 0, .int .u16 0, .int .u16 1] from rfl] at heq
    have hr : zgy (w.alloc (.cells #[.int .i64 3, .string ⟨#[]⟩, .int .u32 0, .int .u16 (x0 : Nat), .int .u16 (x1 : Nat), .int .u16 (x2 : Nat), .int .u16 (x3 : Nat), .int .u16 (x4 : Nat), .int .u16 (x5 : Nat), .int .u16 (x6 : Nat), .int .u16 (x7 : Nat)] 26)) w.heap.size _ := zat w _ _
    generalize decide ([x0, x1, x2, x3, x4, x5, x6, x7] = [0, 0, 0, 0, 0, 0, 0, 1]) = q at *
    clear eV hval hw hn hg1 hg8 e9
    go_enter Tryz.func25, Tryz.ntmps25
    go_wp2_with (refine zg0 rfl _ rfl w.heap.size (by exact rfl) _ hr rfl ?_)
    refine (c1 _).mono ?_
    rintro e w1 ⟨rfl, hb1⟩
    have hr1 := Row.below hr hb1 hr.lt
    replace hb1 := ((Below.refl _ w).alloc jH _).trans (hb1.mono (by simp))
    obtain ⟨p0, p1, p2, p3, p4, p5, p6, p7, p8, p9, p10⟩ := zfu (k := 3) (N := ⟨#[]⟩) (v := 0) hr1
    go_wp2
    go_ret
    exact ⟨rfl, hb1⟩
end

section
open Go.RowKit Go.Shelf
set_option maxHeartbeats 16000000
theorem z8i (s : ByteArray) (w : World) : Calls Tryz.prog 40 #[.string s] w fun e w' => e = .returned (.int .i64 (z6r (ls s))) /\ w = w' := by
 obtain ⟨q1, q2, q3, q4, t1, t2, t3, t4, _, _, e, _⟩ := z4d s
 rw [e]
 clear e
 cases q1 with
 | true =>
   go_enter Tryz.func40, Tryz.ntmps40
   go_wp2
   go_ret
   exact ⟨rfl, rfl⟩
 | false =>
   cases q2 with
   | true =>
     go_enter Tryz.func40, Tryz.ntmps40
     go_wp2
     go_ret
     exact ⟨rfl, rfl⟩
   | false =>
     cases q3 with
     | true =>
       go_enter Tryz.func40, Tryz.ntmps40
       go_wp2
       go_ret
       exact ⟨rfl, rfl⟩
     | false =>
       cases q4 with
       | true =>
         go_enter Tryz.func40, Tryz.ntmps40
         go_wp2
         go_ret
         exact ⟨rfl, rfl⟩
       | false =>
         go_enter Tryz.func40, Tryz.ntmps40
         go_wp2
         go_ret
         exact ⟨rfl, rfl⟩
theorem z8j (s : ByteArray) (w : World) : Calls Tryz.prog 15 #[.string s] w fun e w' => e = .returned (.bool (z6s (ls s))) /\ w = w' := by
 obtain ⟨q1, q2, q3, q4, t1, t2, t3, t4, _, e, _, _⟩ := z4d s
 rw [e]
 clear e
 cases q1 <;> cases q2 <;> cases q3 <;> cases q4 <;> (
  go_enter Tryz.func15, Tryz.ntmps15
  go_wp2
  go_ret
  exact ⟨rfl, rfl⟩)
theorem z8k (u : Uv) (w : World) :
 Calls Tryz.prog 19 #[.agg u.cells] w fun e w' => e = .returned (.int .i64 (if u.port = -1 then z6r u.scheme else u.port)) /\ Below w.heap.size w w' := by
 have hC := z9g u
 have c1 := fun W => z8i (bs u.scheme) W
 rw [zb0] at c1
 generalize u.cells = C at *
 generalize u.host.cells = H at *
 generalize bs u.scheme = S at *
 generalize z6r u.scheme = z at *
 generalize u.port = p at *
 by_cases hp : p = -1
 ·have hq : (p != -1) = false := by rw [hp]; rfl
  rw [if_pos hp]
  clear hp
  go_enter Tryz.func19, Tryz.ntmps19
  go_wp2_with (first
   | (refine zax _ rfl 1 rfl _ _ rfl _ C (by exact rfl) (by exact rfl) ?_; intro W1 g1 hg1 hl1 hR1 hG1; have hbw := zav (Below.refl w.heap.size w) hG1 jH
      obtain ⟨e0, e1, e3, e13, e14⟩ := hC.cell hR1)
   | (go_at_call 40; refine (c1 _).mono ?_; rintro e w5 ⟨rfl, rfl⟩))
  go_ret
  exact ⟨rfl, hbw⟩
 ·have hq : (p != -1) = true := by rw [bne, beq_eq_false_iff_ne.2 hp]; rfl
  rw [if_neg hp]
  clear hp
  go_enter Tryz.func19, Tryz.ntmps19
  go_wp2_with (first
   | (refine zax _ rfl 1 rfl _ _ rfl _ C (by exact rfl) (by exact rfl) ?_; intro W1 g1 hg1 hl1 hR1 hG1; have hbw := zav (Below.refl w.heap.size w) hG1 jH
      obtain ⟨e0, e1, e3, e13, e14⟩ := hC.cell hR1))
  go_ret
  exact ⟨rfl, hbw⟩
end

section
open Go.RowKit Go.Shelf
set_option maxHeartbeats 16000000
end

end Go.Proofs.YtekaljeicfjkjaaGreatDoor
