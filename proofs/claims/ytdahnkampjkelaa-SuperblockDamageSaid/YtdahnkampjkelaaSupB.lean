/-
  The walks of SuperblockChooseMatchesSpec, SuperblockRoundTrip and SuperblockCorrected: each returns true.
-/
import Derived.Test.YtdahnkampjkelaaSupA
import Derived.Test.YtdahnkampjkelaaSupO
namespace Go.Proofs.Ytdahnkampjkelaa
open Go.RowKit

theorem sup_cells (Z : Sup) : ∃ g a e n s : Int, Z.val = .agg #[.int .u64 g, .int .i64 a, .int .u32 e, .int .i64 n, .int .u32 s] := ⟨_, _, _, _, _, rfl⟩
theorem yes_more {w w1 : World} {r : Ending} {w' : World} (hb : Below w.heap.size w w1) (h : Yes w1 r w') : Yes w r w' := yes_of hb h

set_option maxRecDepth 20000 in
set_option maxHeartbeats 4000000 in
theorem walkCho (hE : EncYes 9) (hD : DecOk 11) (hC : ChoOk 18) (A1 : Option Addr) (n1 c1 : Nat) (A2 : Option Addr) (n2 c2 : Nat) (w : World) (h1 : ∃ l, Arg8 w A1 n1 c1 l) (h2 : ∃ l, Arg8 w A2 n2 c2 l) :
    Calls Try.prog 6 #[.slice A1 n1 c1, .slice A2 n2 c2] w (Yes w) := by
  obtain ⟨l, h1⟩ := h1
  obtain ⟨m, h2⟩ := h2
  by_cases hl1 : (200 : Int) < (n1 : Int)
  · have hd : decide ((200 : Int) < (n1 : Int)) = true := decide_eq_true hl1
    clear h1 h2
    go_enter Try.func6, Try.ntmps6
    go_wp2_with fail
    refine (awake9_any hE hD hC w).mono ?_
    rintro r w2 ⟨rfl, hb2⟩
    go_wp2
    go_ret
    exact ⟨rfl, hb2⟩
  · have hd : decide ((200 : Int) < (n1 : Int)) = false := decide_eq_false hl1
    by_cases hl2 : (200 : Int) < (n2 : Int)
    · have hd2 : decide ((200 : Int) < (n2 : Int)) = true := decide_eq_true hl2
      clear h1 h2
      go_enter Try.func6, Try.ntmps6
      go_wp2_with fail
      refine (awake9_any hE hD hC w).mono ?_
      rintro r w2 ⟨rfl, hb2⟩
      go_wp2
      go_ret
      exact ⟨rfl, hb2⟩
    · have hd2 : decide ((200 : Int) < (n2 : Int)) = false := decide_eq_false hl2
      have d1 := hC A1 A2 n1 c1 n2 c2 w.heap.size l m w h1.1 h2.1 h1.2.1 h2.2.1 (by omega) (by omega) (Nat.le_refl _)
      have d2 := fun w' (hb : Below w.heap.size w w') => refChoose_any A1 A2 n1 c1 n2 c2 w.heap.size l m w' (h1.1.below' hb (Nat.le_refl _)) (h2.1.below' hb (Nat.le_refl _)) h1.2.1 h2.2.1 (by omega) (by omega) hb.size
      unfold SChoP at d1 d2
      obtain ⟨g, a, e, n, s, hv⟩ := sup_cells (chSup l m)
      obtain ⟨sl, hsl⟩ : ∃ x : Int, x = (chSlot l m : Nat) := ⟨_, rfl⟩
      obtain ⟨er, her⟩ : ∃ x : Int, x = (chErr l m : Nat) := ⟨_, rfl⟩
      rw [hv, ← hsl, ← her] at d1
      simp only [hv, ← hsl, ← her] at d2
      clear h1 h2 hv hsl her
      go_enter Try.func6, Try.ntmps6
      go_wp2_with fail
      refine d1.mono ?_
      rintro r w1 ⟨rfl, hb1⟩
      clear d1
      go_wp2_with fail
      obtain ⟨W1, hW1⟩ : ∃ x, x = w1.alloc (.cells #[.int .u64 g, .int .i64 a, .int .u32 e, .int .i64 n, .int .u32 s] 25) := ⟨_, rfl⟩
      have hb2 : Below w.heap.size w W1 := by rw [hW1]; exact hb1.alloc hb1.size _
      have hr1 : Row W1 w1.heap.size 25 #[.int .u64 g, .int .i64 a, .int .u32 e, .int .i64 n, .int .u32 s] := by rw [hW1]; exact row_new w1 _ _
      have hlt1 := hr1.lt
      rw [← hW1]
      clear hW1 hb1
      refine (d2 W1 hb2).mono ?_
      clear d2
      rintro r w2 ⟨rfl, hb3⟩
      have hr2 := hr1.below hb3 hlt1
      replace hb3 := hb2.trans (hb3.mono hb2.size)
      clear hb2 hr1
      go_upto_region 5 with fail
      obtain ⟨W2, hW2⟩ : ∃ x, x = w2.alloc (.cells #[.int .u64 g, .int .i64 a, .int .u32 e, .int .i64 n, .int .u32 s] 25) := ⟨_, rfl⟩
      have hr3 : Row W2 w1.heap.size 25 #[.int .u64 g, .int .i64 a, .int .u32 e, .int .i64 n, .int .u32 s] := by rw [hW2]; exact hr2.grown0 (World.grownBy_alloc w2 _ _)
      have hr4 : Row W2 w2.heap.size 25 #[.int .u64 g, .int .i64 a, .int .u32 e, .int .i64 n, .int .u32 s] := by rw [hW2]; exact row_new w2 _ _
      have hb4 : Below w.heap.size w W2 := by rw [hW2]; exact hb3.alloc hb3.size _
      obtain ⟨k0, k1, k2, k3, k4⟩ := row5 hr3
      obtain ⟨j0, j1, j2, j3, j4⟩ := row5 hr4
      rw [← hW2]
      clear hW2 hb3 hr2
      go_wp2_with fail
      refine (awake9_any hE hD hC W2).mono ?_
      rintro r w3 ⟨rfl, hb5⟩
      go_wp2
      go_ret
      exact ⟨rfl, hb4.trans (hb5.mono hb4.size)⟩

set_option maxRecDepth 20000 in
set_option maxHeartbeats 4000000 in
theorem walkRT (hV : ValOk 13) (hN : EncNo 9) (hE : EncYes 9) (hD : DecOk 11) (hC : ChoOk 18) (Z : Sup) (w : World)
    (hz : Z.g < 18446744073709551616 ∧ (-9223372036854775808 ≤ Z.a ∧ Z.a ≤ 9223372036854775807) ∧ (-9223372036854775808 ≤ Z.n ∧ Z.n ≤ 9223372036854775807)) :
    Calls Try.prog 5 #[Z.val] w (Yes w) := by
  obtain ⟨hg, _, _⟩ := hz
  have HZ : Hid (serr Z.enc = 0 ∧ sgot Z.enc = Z ∨ ¬ Z.ok) := by
    by_cases h : Z.ok
    · exact Lib.hid (.inl ⟨serr_enc Z h hg, sgot_enc Z h hg⟩)
    · exact Lib.hid (.inr h)
  have hN' := hN Z
  have hE' := fun h => hE Z h hg
  obtain ⟨g, a, e, n, s, hv⟩ := sup_cells Z
  have hok : sok a n = true ↔ Z.ok := by
    rw [sok_iff]
    unfold Sup.val at hv
    simp only [Value.agg.injEq, Array.mk.injEq, List.cons.injEq, Value.int.injEq, true_and, and_true] at hv
    rw [hv.2.1, hv.2.2.2.1]
  rw [hv] at hN' hE'
  have HV := Lib.hid hv
  have hvv := hV g a e n s
  obtain ⟨W0, hW0⟩ : ∃ x, x = w.alloc (.cells #[.int .u64 g, .int .i64 a, .int .u32 e, .int .i64 n, .int .u32 s] 25) := ⟨_, rfl⟩
  have hb0 : Below w.heap.size w W0 := by rw [hW0]; exact (Below.refl _ _).alloc (Nat.le_refl _) _
  have hr0 : Row W0 w.heap.size 25 #[.int .u64 g, .int .i64 a, .int .u32 e, .int .i64 n, .int .u32 s] := by rw [hW0]; exact row_new w _ _
  have hlt0 := hr0.lt
  rw [hv]
  by_cases h : Z.ok
  · have hs : sok a n = true := hok.2 h
    have HS : Hid (serr Z.enc = 0 ∧ sgot Z.enc = Z) := Lib.hid (HZ.out.resolve_right (fun x => x h))
    have e1 := hE' h
    rw [hs] at hvv
    clear hN' hE' hok hv h
    go_enter Try.func5, Try.ntmps5
    go_wp2_with fail
    rw [← hW0]
    clear hW0
    refine (e1 W0).mono ?_
    rintro r w1 ⟨⟨v, rfl, hown⟩, hb1⟩
    obtain ⟨A, c, rfl, hh, hlc⟩ := hown.has
    have d1 := hD A 64 c _ _ w1 hh hlc (by omega) (Nat.le_refl _)
    unfold SDecP at d1
    rw [HS.out.1, HS.out.2, HV.out] at d1
    have hr1 := hr0.below hb1 hlt0
    have hlt1 := hr1.lt
    replace hb1 := hb0.trans (hb1.mono hb0.size)
    clear e1 hown hh hr0 hb0
    go_wp2_with fail
    refine d1.mono ?_
    rintro r w2 ⟨rfl, hb2⟩
    clear d1
    go_upto_region 5 with fail
    obtain ⟨W2, hW2⟩ : ∃ x, x = w2.alloc (.cells #[.int .u64 g, .int .i64 a, .int .u32 e, .int .i64 n, .int .u32 s] 25) := ⟨_, rfl⟩
    have hr2 : Row W2 w.heap.size 25 #[.int .u64 g, .int .i64 a, .int .u32 e, .int .i64 n, .int .u32 s] := by rw [hW2]; exact (hr1.below hb2 hlt1).grown0 (World.grownBy_alloc w2 _ _)
    have hr3 : Row W2 w2.heap.size 25 #[.int .u64 g, .int .i64 a, .int .u32 e, .int .i64 n, .int .u32 s] := by rw [hW2]; exact row_new w2 _ _
    have hb3 : Below w1.heap.size w1 W2 := by rw [hW2]; exact hb2.alloc hb2.size _
    replace hb3 := hb1.trans (hb3.mono hb1.size)
    obtain ⟨k0, k1, k2, k3, k4⟩ := row5 hr2
    have hlt2 := hr2.lt
    have hlt3 := hr3.lt
    rw [← hW2]
    clear hW2 hb2 hr1 hb1
    go_wp2_with fail
    refine (hvv W2).mono ?_
    rintro r w3 ⟨rfl, hb4⟩
    obtain ⟨i0, i1, i2, i3, i4⟩ := row5 (hr2.below hb4 hlt2)
    obtain ⟨j0, j1, j2, j3, j4⟩ := row5 (hr3.below hb4 hlt3)
    replace hb4 := hb3.trans (hb4.mono hb3.size)
    clear hvv hb3 hr2 hr3 k0 k1 k2 k3 k4
    go_wp2_with fail
    refine (awake9_any hE hD hC w3).mono ?_
    rintro r w4 ⟨rfl, hb5⟩
    go_wp2
    go_ret
    exact ⟨rfl, hb4.trans (hb5.mono hb4.size)⟩
  · have hs : sok a n = false := by cases hx : sok a n with
      | true => exact absurd (hok.1 hx) h
      | false => rfl
    have e1 := hN' h
    rw [hs] at hvv
    clear hN' hE' hok hv h
    go_enter Try.func5, Try.ntmps5
    go_wp2_with fail
    rw [← hW0]
    clear hW0
    refine (e1 W0).mono ?_
    rintro r w1 ⟨rfl, hb1⟩
    obtain ⟨k0, k1, k2, k3, k4⟩ := row5 (hr0.below hb1 hlt0)
    replace hb1 := hb0.trans (hb1.mono hb0.size)
    clear e1 hr0 hb0
    go_wp2_with fail
    refine (hvv w1).mono ?_
    rintro r w2 ⟨rfl, hb2⟩
    replace hb2 := hb1.trans (hb2.mono hb1.size)
    clear hvv hb1 k0 k1 k2 k3 k4
    go_wp2_with fail
    refine (awake9_any hE hD hC w2).mono ?_
    rintro r w4 ⟨rfl, hb5⟩
    go_wp2
    go_ret
    exact ⟨rfl, hb2.trans (hb5.mono hb2.size)⟩

theorem own_row8 {w : World} {g base n : Nat} {t : TypeId} {xs : List Value} (hr : w.heap[g]? = some (.cells xs.toArray t (0, 0))) (hb : base ≤ g) (hn : xs.length = n) (hm : n ≤ maxLen) : w.ownsRow base t 1 (.slice (some ⟨g, 0, none⟩) n n) n xs :=
  ⟨by omega, .inr ⟨g, n, xs.toArray, rfl, hb, hr, Nat.le_refl _, hm, by simp [hn], by simp [← hn]⟩⟩
theorem Has.head8' {w : World} {B n : Nat} {A : Option Addr} {l : List UInt8} (h : Has w B A n (l.map bv)) (k : Nat) : Has w B A (min n k) ((l.take k).map bv) := by
  have hl : l.length = n := by simpa using h.1
  have e : l.take k = l.take (min n k) := by rw [List.take_eq_take_iff, hl]; omega
  rw [e]
  exact h.head8 (min n k) (Nat.min_le_left _ _)
/-- The first 60 bytes, zeros behind them. -/
def cut60 (l : List UInt8) : List UInt8 := l.take 60 ++ List.replicate (60 - (l.take 60).length) 0
theorem cut60_length (l : List UInt8) : (cut60 l).length = 60 := by simp [cut60]; omega
theorem splice_zeros (l : List UInt8) (n : Nat) : splice (zeros n).toList 0 ((l.take n).map bv) = (l.take n ++ List.replicate (n - (l.take n).length) 0).map bv := by
  unfold splice zeros
  simp [bv]
theorem splice60 (l : List UInt8) : splice (zeros 60).toList 0 ((l.take 60).map bv) = (cut60 l).map bv := splice_zeros l 60

set_option maxRecDepth 20000 in
set_option maxHeartbeats 4000000 in
theorem walkCor (hE : EncYes 9) (hD : DecOk 11) (hC : ChoOk 18) (A : Option Addr) (len cap : Nat) (w : World) (h : ∃ l, Arg8 w A len cap l) :
    Calls Try.prog 4 #[.slice A len cap] w (Yes w) := by
  obtain ⟨l, h⟩ := h
  obtain ⟨i5, hi5, hz0, hz1, hz2⟩ := info_parts infoU8
  have HL := Lib.hid h
  have HLL : Hid (l.length = len) := by show _ = _; simpa using h.1.1
  obtain ⟨M, hM⟩ : ∃ M, M = cut60 l := ⟨_, rfl⟩
  have HM := Lib.hid hM
  have HML : Hid (M.length = 60) := by show _ = _; rw [hM, cut60_length]
  obtain ⟨g, a, e, n, s, hv⟩ := sup_cells (sgot (M ++ fixedB (crcSum M)))
  obtain ⟨er, her⟩ : ∃ x : Int, x = (serr (M ++ fixedB (crcSum M)) : Nat) := ⟨_, rfl⟩
  have HV := Lib.hid hv
  have HER := Lib.hid her
  have hcs : ((l.take 60).map bv).length = Nat.min len 60 := by
    rw [List.length_map, List.length_take, HLL.out, Nat.min_comm]
  have hfit : 0 + ((l.take 60).map bv).length ≤ (zeros 60).toList.length := by
    rw [hcs, Nat.zero_add, show (zeros 60).toList.length = 60 by unfold zeros; rw [Array.toList_replicate, List.length_replicate]]
    exact Nat.min_le_right _ _
  have HCS := Lib.hid hcs
  clear h hM hv her hcs
  go_enter Try.func4, Try.ntmps4
  go_wp2_with (first
    | (at_make; refine wpList_make_bytes _ rfl _ _ (by exact rfl) 60 (by exact rfl) (by exact rfl) (by omega) ?_; intro w1 b hb0 hblt hrow hgr; have hb1 : Below w.heap.size w w1 := below_row0 (Below.refl _ _) hgr (Nat.le_refl _))
    | (refine wpList_copy_splice rfl _ _ _ _ (by exact rfl) 5 tyBs sizeU8 _ _ _ _ _ _ (by exact rfl) (by exact rfl) b 0 (zeros 60).toList 5 (by simpa [Row] using hrow) ((l.take 60).map bv) HCS.out (fun h0 => ⟨by exact rfl, src8 ((HL.out.1.below' hb1 (Nat.le_refl _)).head8' 60) h0⟩) hfit (one_bytes _) w.heap.size w hb1 hb0 ?_; intro w2 hg2 hb2))
  rw [splice60, ← HM.out] at hg2
  have hg3 := hg2.out
  have hlm : (M.map bv).length = 60 := by rw [List.length_map]; exact HML.out
  have hown := own_row8 (n := 60) hg3 hb0 hlm (by unfold maxLen; omega)
  have hh : Has w2 w2.heap.size (some ⟨b, 0, none⟩) 60 (M.map bv) := has_row8 hg3 hlm
  clear hg2 hg3 hrow hgr hb1 hfit hlm
  refine (refSum_any (some ⟨b, 0, none⟩) 60 60 _ M w2 hh (by omega)).mono ?_
  rintro r w' ⟨rfl, rfl⟩
  go_wp2_with fail
  refine (fixed_any (crcSum M) _).mono ?_
  rintro r wG ⟨⟨g3, rfl, hf⟩, hbG⟩
  replace hown := own_below hown hbG
  replace hbG := hb2.trans (hbG.mono hb2.size)
  clear hb2 hh
  go_wp2_with (at_builtin; refine wpList_app_has _ rfl _ _ 26 rfl w.heap.size 5 i5 (.int .u8 0) 1 tyBs hi5 hz0 hz1 hz2 rfl _ _ _ (by exact rfl) hown _ 4 4 _ ((fixedB (crcSum M)).map bv) (by exact rfl) (by intro e; cases e) hf (one_bytes _) (by unfold maxLen; omega) (by omega) hbG (Nat.le_refl _) ?_; intro vH wH hownH hbH _; rw [← List.map_append] at hownH; clear hown hbG hf; obtain ⟨AH, cH, rfl, hhH, hlH⟩ := Has.of_own hownH)
  have d1 := hD AH 64 cH _ _ wH hhH hlH (by omega) (Nat.le_refl _)
  unfold SDecP at d1
  rw [HV.out, ← HER.out] at d1
  refine d1.mono ?_
  rintro r w3 ⟨rfl, hb3⟩
  have hh3 := hhH.below hb3
  have hs3 := hb3.size
  replace hb3 := hbH.trans (hb3.mono hbH.size)
  clear d1 hownH hhH
  go_wp2_with fail
  obtain ⟨W3, hW3⟩ : ∃ x, x = w3.alloc (.cells #[.int .u64 g, .int .i64 a, .int .u32 e, .int .i64 n, .int .u32 s] 25) := ⟨_, rfl⟩
  have hb4 : Below w.heap.size w W3 := by rw [hW3]; exact hb3.alloc hb3.size _
  have hr4 : Row W3 w3.heap.size 25 #[.int .u64 g, .int .i64 a, .int .u32 e, .int .i64 n, .int .u32 s] := by rw [hW3]; exact row_new w3 _ _
  have hlt4 := hr4.lt
  have hh4 : Has W3 wH.heap.size AH 64 ((M ++ fixedB (crcSum M)).map bv) := by rw [hW3]; exact hh3.alloc hs3 _
  have hs4 : wH.heap.size ≤ W3.heap.size := by rw [hW3]; exact Nat.le_trans hs3 (by simp)
  rw [← hW3]
  clear hW3 hb3 hh3
  have d2 := refDecS_any AH 64 cH _ _ W3 hh4 hlH (by omega) hs4
  unfold SDecP at d2
  rw [HV.out, ← HER.out] at d2
  refine d2.mono ?_
  rintro r w5 ⟨rfl, hb5⟩
  have hr5 := hr4.below hb5 hlt4
  replace hb5 := hb4.trans (hb5.mono hb4.size)
  clear d2 hr4 hb4 hh4
  go_upto_region 6 with fail
  obtain ⟨W5, hW5⟩ : ∃ x, x = w5.alloc (.cells #[.int .u64 g, .int .i64 a, .int .u32 e, .int .i64 n, .int .u32 s] 25) := ⟨_, rfl⟩
  have hr6 : Row W5 w3.heap.size 25 #[.int .u64 g, .int .i64 a, .int .u32 e, .int .i64 n, .int .u32 s] := by rw [hW5]; exact hr5.grown0 (World.grownBy_alloc w5 _ _)
  have hr7 : Row W5 w5.heap.size 25 #[.int .u64 g, .int .i64 a, .int .u32 e, .int .i64 n, .int .u32 s] := by rw [hW5]; exact row_new w5 _ _
  have hb6 : Below w.heap.size w W5 := by rw [hW5]; exact hb5.alloc hb5.size _
  obtain ⟨k0, k1, k2, k3, k4⟩ := row5 hr6
  obtain ⟨j0, j1, j2, j3, j4⟩ := row5 hr7
  rw [← hW5]
  clear hW5 hb5 hr5
  go_wp2_with fail
  refine (awake9_any hE hD hC W5).mono ?_
  rintro r w7 ⟨rfl, hb7⟩
  go_wp2
  go_ret
  exact ⟨rfl, hb6.trans (hb7.mono hb6.size)⟩

end Go.Proofs.Ytdahnkampjkelaa
