/-
  The walk of SuperblockMatchesSpec: it returns true.
-/
import Derived.Test.YtdahnkampjkelaaSupB
import Derived.Deep.RegionHeld3
namespace Go.Proofs.Ytdahnkampjkelaa
open Go.RowKit

open Classical in
/-- The bytes and the error of encoding. -/
noncomputable def encL (Z : Sup) : List UInt8 := if Z.ok then Z.enc else []
open Classical in
noncomputable def encE (Z : Sup) : Nat := if Z.ok then 0 else 1
theorem enc_both {F : FuncId} (hN : EncNo F) (hE : EncYes F) (Z : Sup) (hg : Z.g < 18446744073709551616) (w : World) :
    Calls Try.prog F #[Z.val] w fun r w' => ∃ A c, r = .returned (.tuple #[.slice A (encL Z).length c, .int .i64 (encE Z : Nat)]) ∧ Has w' w'.heap.size A (encL Z).length ((encL Z).map bv) ∧ Below w.heap.size w w' := by
  by_cases h : Z.ok
  · refine (hE Z h hg w).mono ?_
    rintro r w1 ⟨⟨v, rfl, hown⟩, hb⟩
    obtain ⟨A, c, rfl, hh, _⟩ := hown.has
    have e1 : encL Z = Z.enc := by unfold encL; rw [if_pos h]
    have e2 : encE Z = 0 := by unfold encE; rw [if_pos h]
    rw [e1, e2, Z.enc_length]
    exact ⟨A, c, rfl, hh, hb⟩
  · refine (hN Z h w).mono ?_
    rintro r w1 ⟨rfl, hb⟩
    have e1 : encL Z = [] := by unfold encL; rw [if_neg h]
    have e2 : encE Z = 1 := by unfold encE; rw [if_neg h]
    rw [e1, e2]
    exact ⟨none, 0, rfl, Has.nil _ _ _, hb⟩
theorem SupAt.drewn {w : World} {b : Nat} {g a e n s : Int} (h : SupAt w b g a e n s) : SupAt w.drew b g a e n s := h

set_option maxRecDepth 20000 in
set_option maxHeartbeats 8000000 in
theorem walkMat (hV : ValOk 13) (hN : EncNo 9) (hE : EncYes 9) (hD : DecOk 11) (hC : ChoOk 18) (Z : Sup) (A : Option Addr) (len cap : Nat) (w : World)
    (hz : Z.g < 18446744073709551616 ∧ (-9223372036854775808 ≤ Z.a ∧ Z.a ≤ 9223372036854775807) ∧ (-9223372036854775808 ≤ Z.n ∧ Z.n ≤ 9223372036854775807)) (h : ∃ l, Arg8 w A len cap l) :
    Calls Try.prog 3 #[Z.val, .slice A len cap] w (Yes w) := by
  obtain ⟨hg, _, _⟩ := hz
  obtain ⟨l, h⟩ := h
  have he1 := enc_both hN hE Z hg
  have he2 := enc_both refEncS_no refEncE Z hg
  obtain ⟨L, hL⟩ : ∃ L, L = encL Z := ⟨_, rfl⟩
  obtain ⟨er, her⟩ : ∃ x : Int, x = (encE Z : Nat) := ⟨_, rfl⟩
  rw [← hL, ← her] at he1 he2
  obtain ⟨g, a, e, n, s, hv⟩ := sup_cells Z
  obtain ⟨tg, ta, te, tn, ts, ht⟩ := sup_cells (sgot l)
  obtain ⟨dr, hdr⟩ : ∃ x : Int, x = (serr l : Nat) := ⟨_, rfl⟩
  have hvp := hV g a e n s
  have hvr := refValidS_any g a e n s
  obtain ⟨ok, hok⟩ : ∃ x, x = sok a n := ⟨_, rfl⟩
  rw [← hok] at hvp hvr
  rw [hv] at he1 he2 ⊢
  have hbb : Below w.heap.size w (w.alloc (.cells #[.int .u64 g, .int .i64 a, .int .u32 e, .int .i64 n, .int .u32 s] 25)) := (Below.refl _ _).alloc (Nat.le_refl _) _
  by_cases hlen : (200 : Int) < (len : Int)
  · have hd : decide ((200 : Int) < (len : Int)) = true := decide_eq_true hlen
    clear h he1 he2 hvp hvr hL her hv ht hdr hok
    go_enter Try.func3, Try.ntmps3
    go_wp2_with fail
    refine (awake9_any hE hD hC _).mono ?_
    rintro r w2 ⟨rfl, hb2⟩
    go_wp2
    go_ret
    exact ⟨rfl, hbb.trans (hb2.mono hbb.size)⟩
  · have hd : decide ((200 : Int) < (len : Int)) = false := decide_eq_false hlen
    have d1 := fun w' (hb : Below w.heap.size w w') => hD A len cap w.heap.size l w' (h.1.below' hb (Nat.le_refl _)) h.2.1 (by omega) hb.size
    have d2 := fun w' (hb : Below w.heap.size w w') => refDecS_any A len cap w.heap.size l w' (h.1.below' hb (Nat.le_refl _)) h.2.1 (by omega) hb.size
    unfold SDecP at d1 d2
    rw [ht, ← hdr] at d1 d2
    obtain ⟨W0, hW0⟩ : ∃ x, x = w.alloc (.cells #[.int .u64 g, .int .i64 a, .int .u32 e, .int .i64 n, .int .u32 s] 25) := ⟨_, rfl⟩
    have hb0 : Below w.heap.size w W0 := by rw [hW0]; exact hbb
    have hr0 : Row W0 w.heap.size 25 #[.int .u64 g, .int .i64 a, .int .u32 e, .int .i64 n, .int .u32 s] := by rw [hW0]; exact row_new w _ _
    have hlt0 := hr0.lt
    clear h hL her hv ht hdr hok hbb
    go_enter Try.func3, Try.ntmps3
    go_wp2_with fail
    rw [← hW0]
    clear hW0
    refine (he1 W0).mono ?_
    rintro r w1 ⟨X, cX, rfl, hX, hb1⟩
    obtain ⟨k0, k1, k2, k3, k4⟩ := row5 (hr0.below hb1 hlt0)
    have hs1 := hb1.size
    go_wp2_with fail
    refine (he2 w1).mono ?_
    rintro r w2 ⟨Y, cY, rfl, hY, hb2⟩
    clear k0 k1 k2 k3 k4 he1 he2
    have hX2 := (hX.below hb2).more hb2.size
    have hr2 := hr0.below (hb1.trans (hb2.mono hs1)) hlt0
    have hlt2 := hr2.lt
    have hbw2 := hb0.trans ((hb1.trans (hb2.mono hs1)).mono hb0.size)
    clear hX hb1 hb2 hr0 hb0 hs1
    go_wp2_with fail
    refine (d1 w2 hbw2).mono ?_
    rintro r w3 ⟨rfl, hb3⟩
    clear d1
    go_wp2_with fail
    obtain ⟨W3, hW3⟩ : ∃ x, x = w3.alloc (.cells #[.int .u64 tg, .int .i64 ta, .int .u32 te, .int .i64 tn, .int .u32 ts] 25) := ⟨_, rfl⟩
    have hb4 : Below w2.heap.size w2 W3 := by rw [hW3]; exact hb3.alloc hb3.size _
    have hr3 : Row W3 w3.heap.size 25 #[.int .u64 tg, .int .i64 ta, .int .u32 te, .int .i64 tn, .int .u32 ts] := by rw [hW3]; exact row_new w3 _ _
    have hlt3 := hr3.lt
    rw [← hW3]
    clear hW3 hb3
    refine (d2 W3 (hbw2.trans (hb4.mono hbw2.size))).mono ?_
    rintro r w4 ⟨rfl, hb5⟩
    clear d2
    have hb6 := hb4.trans (hb5.mono hb4.size)
    have hr4 := hr3.below hb5 hlt3
    go_upto_region 7 with fail
    obtain ⟨W4, hW4⟩ : ∃ x, x = w4.alloc (.cells #[.int .u64 tg, .int .i64 ta, .int .u32 te, .int .i64 tn, .int .u32 ts] 25) := ⟨_, rfl⟩
    have hb7 : Below w2.heap.size w2 W4 := by rw [hW4]; exact hb6.alloc hb6.size _
    have S2 : SupAt W4 w.heap.size g a e n s := row5 (hr2.below hb7 hlt2)
    have R9 : Row W4 w3.heap.size 25 #[.int .u64 tg, .int .i64 ta, .int .u32 te, .int .i64 tn, .int .u32 ts] := by rw [hW4]; exact hr4.grown0 (World.grownBy_alloc w4 _ _)
    have R11 : Row W4 w4.heap.size 25 #[.int .u64 tg, .int .i64 ta, .int .u32 te, .int .i64 tn, .int .u32 ts] := by rw [hW4]; exact row_new w4 _ _
    have S9 := row5 R9
    have S11 := row5 R11
    have hl2 : w.heap.size < W4.heap.size := Nat.lt_of_lt_of_le hlt2 hb7.size
    have hl9 := R9.lt
    have hl11 := R11.lt
    have hX4 := (hX2.below hb7).more hb7.size
    have hY4 := (hY.below hb7).more hb7.size
    have hby := fun W' (hb : Below W4.heap.size W4.drew W') => bytes_any X Y L.length cX L.length cY W4.heap.size L L W' ((show Has W4.drew W4.heap.size X L.length (L.map bv) from hX4).below' hb (Nat.le_refl _)) ((show Has W4.drew W4.heap.size Y L.length (L.map bv) from hY4).below' hb (Nat.le_refl _))
    rw [show eqL L L = true by simp [eqL]] at hby
    have hbw4 := hbw2.trans (hb7.mono hbw2.size)
    rw [← hW4]
    clear hW4 hb6 hb7 hr4 hr2 hb4 hb5 hX2 hY hr3 R9 R11 hbw2 hX4 hY4 hlt0 hlt2 hlt3
    obtain ⟨p0, p1, p2, p3, p4⟩ := S2
    obtain ⟨q0, q1, q2, q3, q4⟩ := S9
    obtain ⟨r0, r1, r2, r3, r4⟩ := S11
    have S2 : SupAt W4 w.heap.size g a e n s := ⟨p0, p1, p2, p3, p4⟩
    have S9 : SupAt W4 w3.heap.size tg ta te tn ts := ⟨q0, q1, q2, q3, q4⟩
    have S11 : SupAt W4 w4.heap.size tg ta te tn ts := ⟨r0, r1, r2, r3, r4⟩
    go_region_held3 (fun W => (W.cell? ⟨w.heap.size, 0, none⟩ = some (.int .u64 g) ∧ W.cell? ⟨w.heap.size, 1, none⟩ = some (.int .i64 a) ∧ W.cell? ⟨w.heap.size, 2, none⟩ = some (.int .u32 e) ∧ W.cell? ⟨w.heap.size, 3, none⟩ = some (.int .i64 n) ∧ W.cell? ⟨w.heap.size, 4, none⟩ = some (.int .u32 s)) ∧ (W.cell? ⟨w3.heap.size, 0, none⟩ = some (.int .u64 tg) ∧ W.cell? ⟨w3.heap.size, 1, none⟩ = some (.int .i64 ta) ∧ W.cell? ⟨w3.heap.size, 2, none⟩ = some (.int .u32 te) ∧ W.cell? ⟨w3.heap.size, 3, none⟩ = some (.int .i64 tn) ∧ W.cell? ⟨w3.heap.size, 4, none⟩ = some (.int .u32 ts)) ∧ (W.cell? ⟨w4.heap.size, 0, none⟩ = some (.int .u64 tg) ∧ W.cell? ⟨w4.heap.size, 1, none⟩ = some (.int .i64 ta) ∧ W.cell? ⟨w4.heap.size, 2, none⟩ = some (.int .u32 te) ∧ W.cell? ⟨w4.heap.size, 3, none⟩ = some (.int .i64 tn) ∧ W.cell? ⟨w4.heap.size, 4, none⟩ = some (.int .u32 ts))) (first | exact ⟨⟨p0, p1, p2, p3, p4⟩, ⟨q0, q1, q2, q3, q4⟩, ⟨r0, r1, r2, r3, r4⟩⟩ | go_keep)
      (first
        | (go_at_call 13
           refine (hvp _).mono ?_
           rintro r wA ⟨rfl, hbA⟩
           clear p0 p1 p2 p3 p4 q0 q1 q2 q3 q4 r0 r1 r2 r3 r4
           obtain ⟨p0, p1, p2, p3, p4⟩ := (show SupAt W4.drew w.heap.size g a e n s from S2).below hbA hl2
           obtain ⟨q0, q1, q2, q3, q4⟩ := (show SupAt W4.drew w3.heap.size tg ta te tn ts from S9).below hbA hl9
           obtain ⟨r0, r1, r2, r3, r4⟩ := (show SupAt W4.drew w4.heap.size tg ta te tn ts from S11).below hbA hl11
           clear hvp)
        | (go_at_call 14
           refine (hvr _).mono ?_
           rintro r wB ⟨rfl, hbB⟩
           have hbAB : Below W4.heap.size W4.drew wB := hbA.trans (hbB.mono hbA.size)
           clear p0 p1 p2 p3 p4 q0 q1 q2 q3 q4 r0 r1 r2 r3 r4
           obtain ⟨p0, p1, p2, p3, p4⟩ := (show SupAt W4.drew w.heap.size g a e n s from S2).below hbAB hl2
           obtain ⟨q0, q1, q2, q3, q4⟩ := (show SupAt W4.drew w3.heap.size tg ta te tn ts from S9).below hbAB hl9
           obtain ⟨r0, r1, r2, r3, r4⟩ := (show SupAt W4.drew w4.heap.size tg ta te tn ts from S11).below hbAB hl11
           clear hvr)
        | (go_at_call 15
           refine (hby _ hbAB).mono ?_
           rintro r w' ⟨rfl, rfl⟩)
        | (go_at_call 8
           refine (awake9_any hE hD hC _).mono ?_
           rintro r wC ⟨rfl, hbC⟩
           have hbAC : Below W4.heap.size W4.drew wC := hbAB.trans (hbC.mono hbAB.size)
           clear p0 p1 p2 p3 p4 q0 q1 q2 q3 q4 r0 r1 r2 r3 r4
           obtain ⟨p0, p1, p2, p3, p4⟩ := (show SupAt W4.drew w.heap.size g a e n s from S2).below hbAC hl2
           obtain ⟨q0, q1, q2, q3, q4⟩ := (show SupAt W4.drew w3.heap.size tg ta te tn ts from S9).below hbAC hl9
           obtain ⟨r0, r1, r2, r3, r4⟩ := (show SupAt W4.drew w4.heap.size tg ta te tn ts from S11).below hbAC hl11
           clear hbC))
    all_goals (go_wp2_with fail)
    all_goals go_ret
    all_goals exact ⟨rfl, (hbw4.drew).trans (hbAC.mono hbw4.size)⟩

end Go.Proofs.Ytdahnkampjkelaa
