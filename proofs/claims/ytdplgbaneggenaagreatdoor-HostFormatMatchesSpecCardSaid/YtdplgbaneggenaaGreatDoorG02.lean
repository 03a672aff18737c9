/-
The walk of HostFormatMatchesSpec (written by tools/gen-HrF.py).
All that the statement HostFormatMatchesSpec needs.
-/
import Derived.Test.YtdplgbaneggenaaGreatDoorG01
import Derived.Deep.RegionHeld3
import Derived.Test.YtdplgbaneggenaaGreatDoorR00
import Derived.Test.YtdplgbaneggenaaGreatDoorB35
namespace Go.Proofs.YtdplgbaneggenaaGreatDoor
section
open Go.RowKit Go.Shelf

set_option maxRecDepth 20000 in
set_option maxHeartbeats 8000000 in
theorem walkHoFmt (hP : HoPar 11) (hF : HoFmt 15) (hV : HoVal 13) (hL : HoLab 20) (hC : HoCov 25) (h : Hv) (w : World) (hwf : h.Wf ∧ h.name.length ≤ maxLen) (hw : Hw w) :
    Calls Tryz.prog 4 #[h.val] w (Yes w) := by
  obtain ⟨hwf, hn⟩ := hwf
  have c9 := fun W hW => awake14_any hP hL hC W hW
  have HW := Lib.hid hw
  obtain ⟨k, n, v, g⟩ := h
  have hg8 : g.length = 8 := hwf.2.1
  simp only at hn
  obtain ⟨x0, x1, x2, x3, x4, x5, x6, x7, rfl⟩ := list8e g hg8
  rw [show (Hv.mk k n v [x0, x1, x2, x3, x4, x5, x6, x7]).val = .agg #[.int .i64 k, .string (bs n), .int .u32 (v : Nat), .int .u16 (x0 : Nat), .int .u16 (x1 : Nat), .int .u16 (x2 : Nat), .int .u16 (x3 : Nat), .int .u16 (x4 : Nat), .int .u16 (x5 : Nat), .int .u16 (x6 : Nat), .int .u16 (x7 : Nat)] from rfl]
  have hNs : (bs n).size = n.length := bs_size _
  by_cases hs : n.length ≤ 400
  · have hd1 : decide ((400 : Int) < ((bs n).size : Int)) = false := decide_eq_false (by omega)
    have cV : ∀ W, Calls Tryz.prog 13 #[.agg #[.int .i64 k, .string (bs n), .int .u32 (v : Nat), .int .u16 (x0 : Nat), .int .u16 (x1 : Nat), .int .u16 (x2 : Nat), .int .u16 (x3 : Nat), .int .u16 (x4 : Nat), .int .u16 (x5 : Nat), .int .u16 (x6 : Nat), .int .u16 (x7 : Nat)]] W fun e w' => e = .returned (.bool (validH (Hv.mk k n v [x0, x1, x2, x3, x4, x5, x6, x7]))) ∧ Below W.heap.size W w' := fun W => hV (Hv.mk k n v [x0, x1, x2, x3, x4, x5, x6, x7]) W hwf (by show n.length ≤ _; omega)
    have cF : ∀ W, Hw W → Calls Tryz.prog 15 #[.agg #[.int .i64 k, .string (bs n), .int .u32 (v : Nat), .int .u16 (x0 : Nat), .int .u16 (x1 : Nat), .int .u16 (x2 : Nat), .int .u16 (x3 : Nat), .int .u16 (x4 : Nat), .int .u16 (x5 : Nat), .int .u16 (x6 : Nat), .int .u16 (x7 : Nat)]] W fun e w' => e = .returned (.string (bs (fmtH (Hv.mk k n v [x0, x1, x2, x3, x4, x5, x6, x7])))) ∧ Below W.heap.size W w' := fun W hW => hF (Hv.mk k n v [x0, x1, x2, x3, x4, x5, x6, x7]) W hwf (by show n.length ≤ _; omega) hW.1
    have dV : ∀ W, Calls Tryz.prog 14 #[.agg #[.int .i64 k, .string (bs n), .int .u32 (v : Nat), .int .u16 (x0 : Nat), .int .u16 (x1 : Nat), .int .u16 (x2 : Nat), .int .u16 (x3 : Nat), .int .u16 (x4 : Nat), .int .u16 (x5 : Nat), .int .u16 (x6 : Nat), .int .u16 (x7 : Nat)]] W fun e w' => e = .returned (.bool (validH (Hv.mk k n v [x0, x1, x2, x3, x4, x5, x6, x7]))) ∧ Below W.heap.size W w' := fun W => refValid_any (Hv.mk k n v [x0, x1, x2, x3, x4, x5, x6, x7]) W hwf (by show n.length ≤ _; omega)
    have dF : ∀ W, Hw W → Calls Tryz.prog 16 #[.agg #[.int .i64 k, .string (bs n), .int .u32 (v : Nat), .int .u16 (x0 : Nat), .int .u16 (x1 : Nat), .int .u16 (x2 : Nat), .int .u16 (x3 : Nat), .int .u16 (x4 : Nat), .int .u16 (x5 : Nat), .int .u16 (x6 : Nat), .int .u16 (x7 : Nat)]] W fun e w' => e = .returned (.string (bs (fmtH (Hv.mk k n v [x0, x1, x2, x3, x4, x5, x6, x7])))) ∧ Below W.heap.size W w' := fun W hW => refFmt_any (Hv.mk k n v [x0, x1, x2, x3, x4, x5, x6, x7]) W hwf (by show n.length ≤ _; omega) hW.1
    have hr0 : RowH (w.alloc (.cells #[.int .i64 k, .string (bs n), .int .u32 (v : Nat), .int .u16 (x0 : Nat), .int .u16 (x1 : Nat), .int .u16 (x2 : Nat), .int .u16 (x3 : Nat), .int .u16 (x4 : Nat), .int .u16 (x5 : Nat), .int .u16 (x6 : Nat), .int .u16 (x7 : Nat)] 27)) w.heap.size #[.int .i64 k, .string (bs n), .int .u32 (v : Nat), .int .u16 (x0 : Nat), .int .u16 (x1 : Nat), .int .u16 (x2 : Nat), .int .u16 (x3 : Nat), .int .u16 (x4 : Nat), .int .u16 (x5 : Nat), .int .u16 (x6 : Nat), .int .u16 (x7 : Nat)] := row_new w _ _
    have hb0 : Below w.heap.size w (w.alloc (.cells #[.int .i64 k, .string (bs n), .int .u32 (v : Nat), .int .u16 (x0 : Nat), .int .u16 (x1 : Nat), .int .u16 (x2 : Nat), .int .u16 (x3 : Nat), .int .u16 (x4 : Nat), .int .u16 (x5 : Nat), .int .u16 (x6 : Nat), .int .u16 (x7 : Nat)] 27)) := (Below.refl _ _).alloc (Nat.le_refl _) _
    generalize bs (fmtH (Hv.mk k n v [x0, x1, x2, x3, x4, x5, x6, x7])) = S0 at *
    generalize bs n = N at *
    generalize validH (Hv.mk k n v [x0, x1, x2, x3, x4, x5, x6, x7]) = v0 at *
    clear hL hC hP hF hV hwf hn hNs hs hw
    go_enter Tryz.func4, Tryz.ntmps4
    go_upto_region 1 with fail
    obtain ⟨W0, hW0⟩ : ∃ x, x = w.alloc (.cells #[.int .i64 k, .string N, .int .u32 (v : Nat), .int .u16 (x0 : Nat), .int .u16 (x1 : Nat), .int .u16 (x2 : Nat), .int .u16 (x3 : Nat), .int .u16 (x4 : Nat), .int .u16 (x5 : Nat), .int .u16 (x6 : Nat), .int .u16 (x7 : Nat)] 27) := ⟨_, rfl⟩
    rw [← hW0] at hr0 hb0
    rw [← hW0]
    clear hW0
    obtain ⟨p0, p1, p2, p3, p4, p5, p6, p7, p8, p9, p10⟩ := rowh_cells hr0
    go_upto_region 3 with fail
    have hrd : RowH W0.drew w.heap.size #[.int .i64 k, .string N, .int .u32 (v : Nat), .int .u16 (x0 : Nat), .int .u16 (x1 : Nat), .int .u16 (x2 : Nat), .int .u16 (x3 : Nat), .int .u16 (x4 : Nat), .int .u16 (x5 : Nat), .int .u16 (x6 : Nat), .int .u16 (x7 : Nat)] := hr0
    have hbd : Below w.heap.size w W0.drew := hb0.drew
    clear hr0 hb0
    go_region_held3 (fun W => W.cell? ⟨w.heap.size, 0, none⟩ = some (.int .i64 k) ∧ W.cell? ⟨w.heap.size, 1, none⟩ = some (.string N) ∧ W.cell? ⟨w.heap.size, 2, none⟩ = some (.int .u32 (v : Nat)) ∧ W.cell? ⟨w.heap.size, 3, none⟩ = some (.int .u16 (x0 : Nat)) ∧ W.cell? ⟨w.heap.size, 4, none⟩ = some (.int .u16 (x1 : Nat)) ∧ W.cell? ⟨w.heap.size, 5, none⟩ = some (.int .u16 (x2 : Nat)) ∧ W.cell? ⟨w.heap.size, 6, none⟩ = some (.int .u16 (x3 : Nat)) ∧ W.cell? ⟨w.heap.size, 7, none⟩ = some (.int .u16 (x4 : Nat)) ∧ W.cell? ⟨w.heap.size, 8, none⟩ = some (.int .u16 (x5 : Nat)) ∧ W.cell? ⟨w.heap.size, 9, none⟩ = some (.int .u16 (x6 : Nat)) ∧ W.cell? ⟨w.heap.size, 10, none⟩ = some (.int .u16 (x7 : Nat))) (first | exact ⟨p0, p1, p2, p3, p4, p5, p6, p7, p8, p9, p10⟩ | go_keep)
      (first
        | (go_at_call 13; refine (cV _).mono ?_; rintro e wA ⟨rfl, hbA⟩; replace hrd : RowH wA w.heap.size #[.int .i64 k, .string N, .int .u32 (v : Nat), .int .u16 (x0 : Nat), .int .u16 (x1 : Nat), .int .u16 (x2 : Nat), .int .u16 (x3 : Nat), .int .u16 (x4 : Nat), .int .u16 (x5 : Nat), .int .u16 (x6 : Nat), .int .u16 (x7 : Nat)] := Row.below hrd hbA hrd.lt; replace hbd := hbd.trans (hbA.mono hbd.size); clear hbA p0 p1 p2 p3 p4 p5 p6 p7 p8 p9 p10; obtain ⟨p0, p1, p2, p3, p4, p5, p6, p7, p8, p9, p10⟩ := rowh_cells hrd)
        | (go_at_call 14; refine (dV _).mono ?_; rintro e wA ⟨rfl, hbA⟩; replace hrd : RowH wA w.heap.size #[.int .i64 k, .string N, .int .u32 (v : Nat), .int .u16 (x0 : Nat), .int .u16 (x1 : Nat), .int .u16 (x2 : Nat), .int .u16 (x3 : Nat), .int .u16 (x4 : Nat), .int .u16 (x5 : Nat), .int .u16 (x6 : Nat), .int .u16 (x7 : Nat)] := Row.below hrd hbA hrd.lt; replace hbd := hbd.trans (hbA.mono hbd.size); clear hbA p0 p1 p2 p3 p4 p5 p6 p7 p8 p9 p10; obtain ⟨p0, p1, p2, p3, p4, p5, p6, p7, p8, p9, p10⟩ := rowh_cells hrd)
        | (go_at_call 15; refine (cF _ (hw_below HW.out hbd)).mono ?_; rintro e wA ⟨rfl, hbA⟩; replace hrd : RowH wA w.heap.size #[.int .i64 k, .string N, .int .u32 (v : Nat), .int .u16 (x0 : Nat), .int .u16 (x1 : Nat), .int .u16 (x2 : Nat), .int .u16 (x3 : Nat), .int .u16 (x4 : Nat), .int .u16 (x5 : Nat), .int .u16 (x6 : Nat), .int .u16 (x7 : Nat)] := Row.below hrd hbA hrd.lt; replace hbd := hbd.trans (hbA.mono hbd.size); clear hbA p0 p1 p2 p3 p4 p5 p6 p7 p8 p9 p10; obtain ⟨p0, p1, p2, p3, p4, p5, p6, p7, p8, p9, p10⟩ := rowh_cells hrd)
        | (go_at_call 16; refine (dF _ (hw_below HW.out hbd)).mono ?_; rintro e wA ⟨rfl, hbA⟩; replace hrd : RowH wA w.heap.size #[.int .i64 k, .string N, .int .u32 (v : Nat), .int .u16 (x0 : Nat), .int .u16 (x1 : Nat), .int .u16 (x2 : Nat), .int .u16 (x3 : Nat), .int .u16 (x4 : Nat), .int .u16 (x5 : Nat), .int .u16 (x6 : Nat), .int .u16 (x7 : Nat)] := Row.below hrd hbA hrd.lt; replace hbd := hbd.trans (hbA.mono hbd.size); clear hbA p0 p1 p2 p3 p4 p5 p6 p7 p8 p9 p10; obtain ⟨p0, p1, p2, p3, p4, p5, p6, p7, p8, p9, p10⟩ := rowh_cells hrd)
        | (go_at_call 10; refine (c9 _ (hw_below HW.out hbd)).mono ?_; rintro e wA ⟨rfl, hbA⟩; replace hrd : RowH wA w.heap.size #[.int .i64 k, .string N, .int .u32 (v : Nat), .int .u16 (x0 : Nat), .int .u16 (x1 : Nat), .int .u16 (x2 : Nat), .int .u16 (x3 : Nat), .int .u16 (x4 : Nat), .int .u16 (x5 : Nat), .int .u16 (x6 : Nat), .int .u16 (x7 : Nat)] := Row.below hrd hbA hrd.lt; replace hbd := hbd.trans (hbA.mono hbd.size); clear hbA p0 p1 p2 p3 p4 p5 p6 p7 p8 p9 p10; obtain ⟨p0, p1, p2, p3, p4, p5, p6, p7, p8, p9, p10⟩ := rowh_cells hrd))
    all_goals
      go_wp2
      go_ret
      exact ⟨by simp, hbd⟩
  · have hr0 : RowH (w.alloc (.cells #[.int .i64 k, .string (bs n), .int .u32 (v : Nat), .int .u16 (x0 : Nat), .int .u16 (x1 : Nat), .int .u16 (x2 : Nat), .int .u16 (x3 : Nat), .int .u16 (x4 : Nat), .int .u16 (x5 : Nat), .int .u16 (x6 : Nat), .int .u16 (x7 : Nat)] 27)) w.heap.size #[.int .i64 k, .string (bs n), .int .u32 (v : Nat), .int .u16 (x0 : Nat), .int .u16 (x1 : Nat), .int .u16 (x2 : Nat), .int .u16 (x3 : Nat), .int .u16 (x4 : Nat), .int .u16 (x5 : Nat), .int .u16 (x6 : Nat), .int .u16 (x7 : Nat)] := row_new w _ _
    have hb0 : Below w.heap.size w (w.alloc (.cells #[.int .i64 k, .string (bs n), .int .u32 (v : Nat), .int .u16 (x0 : Nat), .int .u16 (x1 : Nat), .int .u16 (x2 : Nat), .int .u16 (x3 : Nat), .int .u16 (x4 : Nat), .int .u16 (x5 : Nat), .int .u16 (x6 : Nat), .int .u16 (x7 : Nat)] 27)) := (Below.refl _ _).alloc (Nat.le_refl _) _
    have c9' := c9 _ (hw_below hw hb0)
    have hd : decide ((400 : Int) < ((bs n).size : Int)) = true := decide_eq_true (by omega)
    generalize bs n = N at *
    obtain ⟨p0, p1, p2, p3, p4, p5, p6, p7, p8, p9, p10⟩ := rowh_cells hr0
    clear hs c9 hr0 hL hC hP hF hV hwf hn hNs hw
    go_enter Tryz.func4, Tryz.ntmps4
    go_upto_region 1 with fail
    generalize w.alloc (.cells #[.int .i64 k, .string N, .int .u32 (v : Nat), .int .u16 (x0 : Nat), .int .u16 (x1 : Nat), .int .u16 (x2 : Nat), .int .u16 (x3 : Nat), .int .u16 (x4 : Nat), .int .u16 (x5 : Nat), .int .u16 (x6 : Nat), .int .u16 (x7 : Nat)] 27) = W0 at *
    go_wp2_with fail
    refine c9'.mono ?_
    rintro e w1 ⟨rfl, hb1⟩
    go_wp2
    go_ret
    exact ⟨rfl, hb0.trans (hb1.mono hb0.size)⟩
end

section

end

end Go.Proofs.YtdplgbaneggenaaGreatDoor
