/-
  The walk of SuperblockDamage: it returns true (written by tools/gen-SupD.py).
-/
import Derived.Test.YtdahnkampjkelaaSupC
import Derived.Test.YtdahnkampjkelaaFlp
import Derived.BigQuiet
namespace Go.Proofs.Ytdahnkampjkelaa
open Go.RowKit

theorem max64 {P : Program} (w : World) (ts : Array TypeId) (t : TypeId) (a b r : Int) (hr : max a b = r) :
    (Builtin.max_ ts t #[.int .u64 a, .int .u64 b]).run P w = .ok (.int .u64 r) w := by
  have e1 : (if a < b then b else a) = max a b := by omega
  simp [Builtin.max_, Builtin.max2, List.foldlM, e1]
  omega
theorem nv_or (a b : W32) : bits .or .u32 (nv a) (nv b) = nv (a ||| b) := by
  have h1 := a.isLt
  have h2 := b.isLt
  unfold nv
  rw [u32_or_nat _ _ (by omega) (by omega), BitVec.toNat_or]
theorem or_odd (a : W32) : (a ||| 1#32).toNat % 2 = 1 := by
  rw [BitVec.toNat_or]
  have : (a.toNat ||| 1) % 2 = 1 := by rw [Nat.or_mod_two_eq_one]; exact .inr rfl
  exact this
theorem OwnE.step {W W' : World} {b c n : Nat} {l : List UInt8} (h : OwnE W b c n l) (hb : Below W.heap.size W W') : OwnE W' b c n l := by
  obtain ⟨t, cur, hr, h2⟩ := h
  exact ⟨t, cur, hr.below hb hr.lt, h2⟩
theorem row_other {W : World} {b x j : Nat} {t : TypeId} {c : Array Value} (h : Row W b t c) (hne : b ≠ x) (v : Value) : Row (W.setCell ⟨x, j, none⟩ v) b t c := by
  unfold Row at h ⊢
  rw [← h]
  exact Below.heap_setCell _ _ _ _ hne
theorem OwnE.other {W : World} {b c n x j : Nat} {l : List UInt8} (h : OwnE W b c n l) (hne : b ≠ x) (v : Value) : OwnE (W.setCell ⟨x, j, none⟩ v) b c n l := by
  obtain ⟨t, cur, hr, h2⟩ := h
  exact ⟨t, cur, row_other hr hne v, h2⟩
theorem OwnE.grown {W W' : World} {b c n x : Nat} {l : List UInt8} (h : OwnE W b c n l) (hg : W.grownBy W' (some x)) (hne : b ≠ x) : OwnE W' b c n l := by
  obtain ⟨t, cur, hr, h2⟩ := h
  exact ⟨t, cur, hr.grown hg hne, h2⟩
/-- The arguments' variables. -/
structure DamI (w W : World) (zc yc dc : Array Value) : Prop where
  bel : Below w.heap.size w W
  r1 : Row W w.heap.size 25 zc
  r2 : Row W (w.heap.size + 1) 25 yc
  r3 : Row W (w.heap.size + 1 + 1) 41 dc
theorem DamI.step {w W W' : World} {zc yc dc : Array Value} (h : DamI w W zc yc dc) (hb : Below W.heap.size W W') : DamI w W' zc yc dc :=
  ⟨h.bel.trans (hb.mono h.bel.size), h.r1.below hb h.r1.lt, h.r2.below hb h.r2.lt, h.r3.below hb h.r3.lt⟩
theorem DamI.start (w : World) (zc yc dc : Array Value) : DamI w (((w.alloc (.cells zc 25)).alloc (.cells yc 25)).alloc (.cells dc 41)) zc yc dc := by
  have e1 : (w.alloc (.cells zc 25)).heap.size = w.heap.size + 1 := by simp
  have e2 : ((w.alloc (.cells zc 25)).alloc (.cells yc 25)).heap.size = w.heap.size + 1 + 1 := by simp
  refine ⟨(((Below.refl _ _).alloc (Nat.le_refl _) _).alloc (by simp) _).alloc (by rw [e2]; omega) _, ?_, ?_, ?_⟩
  · exact ((row_new w _ _).grown0 (World.grownBy_alloc _ _ _)).grown0 (World.grownBy_alloc _ _ _)
  · rw [← e1]; exact (row_new _ _ _).grown0 (World.grownBy_alloc _ _ _)
  · rw [← e2]; exact row_new _ _ _
/-- What the loop keeps. -/
def DamL (w wr : World) (ga ca gb cb b12 : Nat) (F Ye : List UInt8) (yc xc : Array Value) : Prop :=
  OwnE wr ga ca 64 F ∧ OwnE wr gb cb 64 Ye ∧ Row wr (w.heap.size + 1) 25 yc ∧ Row wr b12 25 xc ∧ Below w.heap.size w wr

set_option maxRecDepth 20000 in
set_option maxHeartbeats 4000000 in
theorem dam_no (hN : EncNo 9) (hE : EncYes 9) (hD : DecOk 11) (hC : ChoOk 18) (Z Y : Sup) (d0 d1 : W32) (w : World)
    (hg1 : Z.g < 18446744073709551616) (hg2 : Y.g < 18446744073709551616) (hno : ¬ (Z.ok ∧ Y.ok)) :
    Calls Try.prog 7 #[Z.val, Y.val, .agg #[.int .u32 (nv d0), .int .u32 (nv d1)]] w (Yes w) := by
  have he1 := enc_both hN hE Z hg1
  have he2 := enc_both hN hE Y hg2
  obtain ⟨b1, hb1⟩ : ∃ x, x = sok Z.a Z.n := ⟨_, rfl⟩
  obtain ⟨b2, hb2⟩ : ∃ x, x = sok Y.a Y.n := ⟨_, rfl⟩
  have hbb : b1 = false ∨ (b1 = true ∧ b2 = false) := by
    rw [sok_iff, sok_iff, ← hb1, ← hb2] at hno
    cases b1 <;> cases b2 <;> simp_all
  have hv1 := fun W => refValidS_any (Z.g : Int) Z.a (nv Z.e) Z.n (nv Z.s) W
  have hv2 := fun W => refValidS_any (Y.g : Int) Y.a (nv Y.e) Y.n (nv Y.s) W
  rw [← hb1] at hv1
  rw [← hb2] at hv2
  unfold Sup.val at he1 he2 ⊢
  generalize (Z.g : Int) = g at *
  generalize Z.a = a at *
  generalize nv Z.e = e at *
  generalize Z.n = n at *
  generalize nv Z.s = s at *
  generalize (Y.g : Int) = tg at *
  generalize Y.a = ta at *
  generalize nv Y.e = te at *
  generalize Y.n = tn at *
  generalize nv Y.s = ts at *
  obtain ⟨E1, hE1⟩ : ∃ x : Int, x = (encE Z : Nat) := ⟨_, rfl⟩
  obtain ⟨E2, hE2⟩ : ∃ x : Int, x = (encE Y : Nat) := ⟨_, rfl⟩
  rw [← hE1] at he1
  rw [← hE2] at he2
  have I0 := DamI.start w #[.int .u64 g, .int .i64 a, .int .u32 e, .int .i64 n, .int .u32 s] #[.int .u64 tg, .int .i64 ta, .int .u32 te, .int .i64 tn, .int .u32 ts] #[.int .u32 (nv d0), .int .u32 (nv d1)]
  clear hb1 hb2 hno hE1 hE2
  go_enter Try.func7, Try.ntmps7
  go_wp2_with fail
  refine (he1 _).mono ?_
  rintro r w1 ⟨X, cX, rfl, hX, hw1⟩
  have I1 := I0.step hw1
  obtain ⟨i0, i1, i2, i3, i4⟩ := row5 I1.r2
  clear I0 hw1 hX he1
  go_wp2_with fail
  refine (he2 _).mono ?_
  rintro r w2 ⟨X2, cX2, rfl, hX2, hw2⟩
  have I2 := I1.step hw2
  obtain ⟨j0, j1, j2, j3, j4⟩ := row5 I2.r1
  clear i0 i1 i2 i3 i4 I1 hw2 hX2 he2
  go_wp2_with fail
  refine (hv1 _).mono ?_
  rintro r w3 ⟨rfl, hw3⟩
  have I3 := I2.step hw3
  obtain ⟨i0, i1, i2, i3, i4⟩ := row5 I3.r2
  clear j0 j1 j2 j3 j4 I2 hw3 hv1
  rcases hbb with rfl | ⟨rfl, rfl⟩
  · go_wp2_with fail
    refine (awake9_any hE hD hC _).mono ?_
    rintro r w4 ⟨rfl, hw4⟩
    go_wp2
    go_ret
    exact ⟨rfl, I3.bel.trans (hw4.mono I3.bel.size)⟩
  · go_wp2_with fail
    refine (hv2 _).mono ?_
    rintro r w4 ⟨rfl, hw4⟩
    have I4 := I3.step hw4
    clear i0 i1 i2 i3 i4 I3 hw4 hv2
    go_wp2_with fail
    refine (awake9_any hE hD hC _).mono ?_
    rintro r w5 ⟨rfl, hw5⟩
    go_wp2
    go_ret
    exact ⟨rfl, I4.bel.trans (hw5.mono I4.bel.size)⟩

set_option maxRecDepth 20000 in
set_option maxHeartbeats 8000000 in
theorem dam_lt (hN : EncNo 9) (hE : EncYes 9) (hD : DecOk 11) (hC : ChoOk 18) (Z Y : Sup) (d0 d1 : W32) (w : World)
    (hg1 : Z.g < 18446744073709551616) (hg2 : Y.g < 18446744073709551616) (hz : Z.ok) (hy : Y.ok) (hc : Z.g < Y.g) :
    Calls Try.prog 7 #[Z.val, Y.val, .agg #[.int .u32 (nv d0), .int .u32 (nv d1)]] w (Yes w) := by
  have he1 := hE Z hz hg1
  have he2 := hE Y hy hg2
  have HSZ := Lib.hid (And.intro (serr_enc Z hz hg1) (sgot_enc Z hz hg1))
  have HSY := Lib.hid (And.intro (serr_enc Y hy hg2) (sgot_enc Y hy hg2))
  have HCH : Hid (chSlot Z.enc Y.enc = 1 ∧ chSup Z.enc Y.enc = Y ∧ chErr Z.enc Y.enc = 0) := by
    show _ ∧ _
    have h := ch_gt HSZ.out.1 HSY.out.1 (by rw [HSZ.out.2, HSY.out.2]; exact hc)
    rwa [HSY.out.2] at h
  have hv1 := fun W => refValidS_any (Z.g : Int) Z.a (nv Z.e) Z.n (nv Z.s) W
  have hv2 := fun W => refValidS_any (Y.g : Int) Y.a (nv Y.e) Y.n (nv Y.s) W
  rw [(sok_iff Z).1 hz] at hv1
  rw [(sok_iff Y).1 hy] at hv2
  obtain ⟨F, hF⟩ : ∃ F, F = Z.enc := ⟨_, rfl⟩
  obtain ⟨Ye, hYe⟩ : ∃ F, F = Y.enc := ⟨_, rfl⟩
  have HF := Lib.hid hF
  have HYe := Lib.hid hYe
  have HFL := Lib.hid (show F.length = 64 by rw [hF, Z.enc_length])
  have hval1 : Z.val = .agg #[.int .u64 (Z.g : Int), .int .i64 Z.a, .int .u32 (nv Z.e), .int .i64 Z.n, .int .u32 (nv Z.s)] := rfl
  have hval2 : Y.val = .agg #[.int .u64 (Y.g : Int), .int .i64 Y.a, .int .u32 (nv Y.e), .int .i64 Y.n, .int .u32 (nv Y.s)] := rfl
  rw [hval1] at he1 ⊢
  rw [hval2] at he2 ⊢
  rw [← hF] at he1
  rw [← hYe] at he2
  have hcc : (Z.g : Int) < Y.g := by omega
  generalize hG : (Z.g : Int) = g at *
  generalize Z.a = a at *
  generalize nv Z.e = e at *
  generalize Z.n = n at *
  generalize nv Z.s = s at *
  generalize hG2 : (Y.g : Int) = tg at *
  generalize Y.a = ta at *
  generalize nv Y.e = te at *
  generalize Y.n = tn at *
  generalize nv Y.s = ts at *
  have HV1 := Lib.hid hval1
  have HV2 := Lib.hid hval2
  clear hval1 hval2 hF hYe hz hy hc hg1 hg2 hG hG2
  have t1 : decide (g < tg) = true := decide_eq_true hcc
  have t2 : (g == tg) = false := by simp; omega
  have hmx := fun (W : World) (ty : Array TypeId) (t : TypeId) => max64 (P := Try.prog) W ty t g tg tg (by omega)
  clear hcc
  have I0 := DamI.start w #[.int .u64 g, .int .i64 a, .int .u32 e, .int .i64 n, .int .u32 s] #[.int .u64 tg, .int .i64 ta, .int .u32 te, .int .i64 tn, .int .u32 ts] #[.int .u32 (nv d0), .int .u32 (nv d1)]
  obtain ⟨p, hp⟩ : ∃ p, p = d1 ||| 1#32 := ⟨_, rfl⟩
  have hor := nv_or d1 1#32
  rw [← hp, show nv 1#32 = 1 by unfold nv; rfl] at hor
  have HP : Hid (p.toNat % 2 = 1) := Lib.hid (by rw [hp]; exact or_odd d1)
  obtain ⟨m, hm⟩ : ∃ m : Nat, nv d0 % 480 = (m : Int) := ⟨(nv d0 % 480).toNat, by have := nv_ge d0; omega⟩
  have hmb : m < 480 := by have := nv_ge d0; omega
  have hd0 := nv_ge d0
  have hd0' := nv_lt d0
  have hd1 := nv_ge d1
  have hd1' := nv_lt d1
  have hpg := nv_ge p
  have hpl := nv_lt p
  generalize nv d0 = x0 at *
  generalize nv d1 = x1 at *
  clear hp
  go_enter Try.func7, Try.ntmps7
  go_wp2_with fail
  refine (he1 _).mono ?_
  rintro r w1 ⟨⟨v, rfl, hown⟩, hw1⟩
  have I1 := I0.step hw1
  obtain ⟨ga, ca, rfl, hga0, hoA⟩ := hown
  have hga : w.heap.size + 1 < ga := by simp at hga0; omega
  obtain ⟨i0, i1, i2, i3, i4⟩ := row5 I1.r2
  clear I0 hw1 he1 hga0
  go_wp2_with fail
  refine (he2 _).mono ?_
  rintro r w2 ⟨⟨v, rfl, hown⟩, hw2⟩
  have I2 := I1.step hw2
  obtain ⟨gb, cb, rfl, hgb0, hoB⟩ := hown
  have hgb : gb ≠ ga := by have := hoA.lt; omega
  replace hoA := hoA.step hw2
  obtain ⟨j0, j1, j2, j3, j4⟩ := row5 I2.r1
  clear i0 i1 i2 i3 i4 I1 hw2 he2 hgb0
  go_wp2_with fail
  refine (hv1 _).mono ?_
  rintro r w3 ⟨rfl, hw3⟩
  have I3 := I2.step hw3
  replace hoA := hoA.step hw3
  replace hoB := hoB.step hw3
  obtain ⟨i0, i1, i2, i3, i4⟩ := row5 I3.r2
  clear j0 j1 j2 j3 j4 I2 hw3 hv1
  go_wp2_with fail
  refine (hv2 _).mono ?_
  rintro r w4 ⟨rfl, hw4⟩
  have I4 := I3.step hw4
  replace hoA := hoA.step hw4
  replace hoB := hoB.step hw4
  clear i0 i1 i2 i3 i4 I3 hw4 hv2
  have hcA := hoA.le
  have hcB := hoB.le
  have c1 := hC (some ⟨ga, 0, none⟩) (some ⟨gb, 0, none⟩) 64 ca 64 cb _ F Ye w4 hoA.has hoB.has hcA hcB (by omega) (by omega) (Nat.le_refl _)
  unfold SChoP at c1
  rw [HF.out, HYe.out, HCH.out.1, HCH.out.2.1, HCH.out.2.2, HV2.out] at c1
  have hda : decide ((64 : Int) ≤ 64) = true := rfl
  go_wp2_with fail
  refine c1.mono ?_
  rintro r w5 ⟨rfl, hw5⟩
  have I5 := I4.step hw5
  replace hoA := hoA.step hw5
  replace hoB := hoB.step hw5
  clear c1 I4 hw5
  go_upto_region 8 with fail
  obtain ⟨W5, hW5⟩ : ∃ x, x = w5.alloc (.cells #[.int .u64 tg, .int .i64 ta, .int .u32 te, .int .i64 tn, .int .u32 ts] 25) := ⟨_, rfl⟩
  have hb6 : Below w5.heap.size w5 W5 := by rw [hW5]; exact (Below.refl _ _).alloc (Nat.le_refl _) _
  have R12 : Row W5 w5.heap.size 25 #[.int .u64 tg, .int .i64 ta, .int .u32 te, .int .i64 tn, .int .u32 ts] := by rw [hW5]; exact row_new w5 _ _
  have I6 := I5.step hb6
  have h12a : w5.heap.size ≠ ga := by have := hoA.lt; omega
  have h12b : w5.heap.size ≠ gb := by have := hoB.lt; omega
  have h12c : w.heap.size + 1 < w5.heap.size := I5.r2.lt
  replace hoA := hoA.step hb6
  replace hoB := hoB.step hb6
  rw [← hW5]
  clear hW5 hb6 I5
  generalize w5.heap.size = b12 at *
  obtain ⟨i0, i1, i2, i3, i4⟩ := row5 I6.r1
  obtain ⟨j0, j1, j2, j3, j4⟩ := row5 I6.r2
  obtain ⟨k0, k1, k2, k3, k4⟩ := row5 R12
  go_upto_region 10 with fail
  clear i0 i1 i2 i3 i4 j0 j1 j2 j3 j4 k0 k1 k2 k3 k4 hmx
  have q0 : W5.cell? ⟨w.heap.size + 1 + 1, 0, none⟩ = some (.int .u32 x0) := I6.r3.cell (k := 0) (by simp)
  have q1 : W5.cell? ⟨w.heap.size + 1 + 1, 1, none⟩ = some (.int .u32 x1) := I6.r3.cell (k := 1) (by simp)
  go_quiet (fail)
  have HL : Hid (DamL w W5 ga ca gb cb b12 F Ye #[.int .u64 tg, .int .i64 ta, .int .u32 te, .int .i64 tn, .int .u32 ts] #[.int .u64 tg, .int .i64 ta, .int .u32 te, .int .i64 tn, .int .u32 ts]) := Lib.hid ⟨hoA, hoB, I6.r2, R12, I6.bel⟩
  clear I6 hoA hoB R12 q0 q1
  go_wp2_with fail
  clear hm hor hd0 hd0' hd1 hd1'
  go_loopw [16] (fun i wr => ∃ k : Nat, k ≤ 32 ∧ i = .int .i64 k ∧ Hid (DamL w wr ga ca gb cb b12 (flips F m p.toNat k) Ye #[.int .u64 tg, .int .i64 ta, .int .u32 te, .int .i64 tn, .int .u32 ts] #[.int .u64 tg, .int .i64 ta, .int .u32 te, .int .i64 tn, .int .u32 ts])) (fun i _ => 32 - (intOf i).toNat)
  case atStart => exact ⟨0, Nat.zero_le _, rfl, HL.out.1, HL.out.2.1, HL.out.2.2.1, HL.out.2.2.2.1, by first | exact HL.out.2.2.2.2 | exact below_drewN HL.out.2.2.2.2 _⟩
  case round =>
    obtain ⟨k, hk, rfl, HR⟩ := hrel
    by_cases hlt : k < 32
    · obtain ⟨sv, hs⟩ : ∃ s, nv p / 2 ^ k = s := ⟨_, rfl⟩
      have hs0 : 0 ≤ sv := by rw [← hs]; exact shr_ge0 p k
      have HS := Lib.hid hs
      obtain ⟨j, hj⟩ : ∃ j, j = m + k := ⟨_, rfl⟩
      have hsum : (m : Int) + (k : Int) = (j : Int) := by omega
      have HJ := Lib.hid hj
      have hjb : j ≤ 511 := by omega
      clear hs hj
      by_cases hbit : sv % 2 = 1
      · obtain ⟨q, hq⟩ : ∃ q, q = j / 8 := ⟨_, rfl⟩
        obtain ⟨r, hr⟩ : ∃ r, r = j % 8 := ⟨_, rfl⟩
        have hdiv : (j : Int) / 8 = (q : Int) := by omega
        have hmod2 : (j : Int) % 8 = (r : Int) := by omega
        have hr8 : r < 8 := by omega
        have hql : q < 64 := by omega
        have hcell := HR.out.1.cell hql
        have hfro := HR.out.1.frozen q
        obtain ⟨y, hy⟩ : ∃ y, y = (flips F m p.toNat k).getD q 0 := ⟨_, rfl⟩
        have hx := xor_u8 y (mask8 r)
        have hw := mask8_pow r hr8
        obtain ⟨yv, hyv⟩ : ∃ v : Int, v = (y.toNat : Int) := ⟨_, rfl⟩
        obtain ⟨mv, hmv⟩ : ∃ v : Int, v = ((mask8 r).toNat : Int) := ⟨_, rfl⟩
        obtain ⟨zv, hzv⟩ : ∃ v : Int, v = ((y ^^^ mask8 r).toNat : Int) := ⟨_, rfl⟩
        rw [← hy, ← hyv] at hcell
        rw [← hyv, ← hmv, ← hzv] at hx
        rw [← hmv] at hw
        have HQ := Lib.hid hq
        have HR8 := Lib.hid hr
        have HY := Lib.hid hy
        have HZ := Lib.hid hzv
        have HHIT := Lib.hid (show hits F.length m p.toNat k = true by
          unfold hits
          rw [decide_eq_true ((nv_bit HS.out).2 hbit), decide_eq_true (by rw [HFL.out, ← HJ.out, ← HQ.out]; exact hql)]
          rfl)
        have hq64 : (q : Int) < 64 := by omega
        clear hq hr hy hyv hmv hzv
        go_wp2_with (refine wpList_shr32 _ rfl _ _ _ _ rfl ty_u32 _ k hk (by exact rfl) (by exact rfl) sv HS.out ?_)
        go_region
        go_wp2
        go_roundw
        case rel =>
          refine ⟨k + 1, by omega, by go_num, ?_, HR.out.2.1.other hgb _, row_other HR.out.2.2.1 (Nat.ne_of_lt hga) _, row_other HR.out.2.2.2.1 h12a _, (HR.out.2.2.2.2.setCell (p := ⟨ga, q, none⟩) (Nat.le_of_lt (Nat.lt_of_succ_lt hga)) _).drew⟩
          rw [flips_hit HHIT.out, ← HJ.out, ← HQ.out, ← HR8.out, ← HY.out]
          exact HR.out.1.set_cell hql _ _ HZ.out
        case measure => simp [intOf]; omega
      · have hbit0 : sv % 2 = 0 := by omega
        have HM := Lib.hid (show ¬ hits F.length m p.toNat k = true by unfold hits; rw [decide_eq_false (fun h => hbit ((nv_bit HS.out).1 h))]; simp)
        clear hbit
        go_wp2_with (refine wpList_shr32 _ rfl _ _ _ _ rfl ty_u32 _ k hk (by exact rfl) (by exact rfl) sv HS.out ?_)
        go_roundw
        case rel =>
          refine ⟨k + 1, by omega, by go_num, ?_⟩
          rw [flips_miss HM.out]
          exact HR.out
        case measure => simp [intOf]; omega
    · obtain rfl : k = 32 := by omega
      obtain ⟨D, hD0⟩ : ∃ D, D = flips F m p.toNat 32 := ⟨_, rfl⟩
      have h7 : serr D = 7 := by rw [hD0, HF.out]; exact serr_burst Z m p.toNat (by omega) HP.out
      have h0 : serr Ye = 0 := by rw [HYe.out]; exact HSY.out.1
      have hgot : sgot Ye = Y := by rw [HYe.out]; exact HSY.out.2
      obtain ⟨u1, u2, u3⟩ := ch_b (a := D) (b := Ye) (by rw [h7]; decide) h0
      obtain ⟨v1, v2, v3⟩ := ch_a (a := Ye) (b := D) h0 (by rw [h7]; decide)
      rw [hgot] at u2 v2
      have hR := HR.out
      rw [← hD0] at hR
      obtain ⟨oA, oB, r2, r12, hbw⟩ := hR
      have c1 := hC (some ⟨ga, 0, none⟩) (some ⟨gb, 0, none⟩) 64 ca 64 cb _ D Ye wr oA.has oB.has hcA hcB (by omega) (by omega) (Nat.le_refl _)
      unfold SChoP at c1
      rw [u1, u2, u3, HV2.out] at c1
      go_wp2_with fail
      refine c1.mono ?_
      rintro r w7 ⟨rfl, hw7⟩
      have hs7 := hbw.size
      replace oA := oA.step hw7
      replace oB := oB.step hw7
      replace r2 := r2.below hw7 r2.lt
      replace r12 := r12.below hw7 r12.lt
      replace hbw := hbw.trans (hw7.mono hbw.size)
      clear c1 hw7 hs7 u1 u2 u3
      go_wp2_with (refine wpList_store_arr _ rfl rfl _ _ _ rfl b12 (by exact rfl) #[.int .u64 tg, .int .i64 ta, .int .u32 te, .int .i64 tn, .int .u32 ts] (by exact rfl) _ _ r12 supSize rfl (sup_one _ _ _ _ _) ?_; intro w8 r12' hg8)
      replace oA := oA.grown hg8 (Ne.symm h12a)
      replace oB := oB.grown hg8 (Ne.symm h12b)
      replace r2 := r2.grown hg8 (Nat.ne_of_lt h12c)
      replace hbw := below_row hbw hg8 (Nat.le_refl _) (by omega)
      have c2 := hC (some ⟨gb, 0, none⟩) (some ⟨ga, 0, none⟩) 64 cb 64 ca _ Ye D w8 oB.has oA.has hcB hcA (by omega) (by omega) (Nat.le_refl _)
      unfold SChoP at c2
      rw [v1, v2, v3, HV2.out] at c2
      refine c2.mono ?_
      rintro r w9 ⟨rfl, hw9⟩
      replace r2 := r2.below hw9 r2.lt
      replace r12' := r12'.below hw9 r12'.lt
      replace hbw := hbw.trans (hw9.mono hbw.size)
      clear c2 hw9 oA oB r12 hg8 v1 v2 v3
      go_upto_region 18 with fail
      obtain ⟨W9, hW9⟩ : ∃ x, x = w9.alloc (.cells #[.int .u64 tg, .int .i64 ta, .int .u32 te, .int .i64 tn, .int .u32 ts] 25) := ⟨_, rfl⟩
      obtain ⟨i0, i1, i2, i3, i4⟩ := row5 (show Row W9 (w.heap.size + 1) 25 #[.int .u64 tg, .int .i64 ta, .int .u32 te, .int .i64 tn, .int .u32 ts] by rw [hW9]; exact r2.grown0 (World.grownBy_alloc w9 _ _))
      obtain ⟨j0, j1, j2, j3, j4⟩ := row5 (show Row W9 b12 25 #[.int .u64 tg, .int .i64 ta, .int .u32 te, .int .i64 tn, .int .u32 ts] by rw [hW9]; exact r12'.grown0 (World.grownBy_alloc w9 _ _))
      obtain ⟨k0, k1, k2, k3, k4⟩ := row5 (show Row W9 w9.heap.size 25 #[.int .u64 tg, .int .i64 ta, .int .u32 te, .int .i64 tn, .int .u32 ts] by rw [hW9]; exact row_new w9 _ _)
      have hbf : Below w.heap.size w W9 := by rw [hW9]; exact hbw.alloc hbw.size _
      rw [← hW9]
      clear hW9 hbw r2 r12'
      go_wp2_with fail
      refine (awake9_any hE hD hC _).mono ?_
      rintro r wz ⟨rfl, hbz⟩
      go_wp2
      go_ret
      exact ⟨rfl, hbf.trans (hbz.mono hbf.size)⟩

set_option maxRecDepth 20000 in
set_option maxHeartbeats 8000000 in
theorem dam_gt (hN : EncNo 9) (hE : EncYes 9) (hD : DecOk 11) (hC : ChoOk 18) (Z Y : Sup) (d0 d1 : W32) (w : World)
    (hg1 : Z.g < 18446744073709551616) (hg2 : Y.g < 18446744073709551616) (hz : Z.ok) (hy : Y.ok) (hc : Y.g < Z.g) :
    Calls Try.prog 7 #[Z.val, Y.val, .agg #[.int .u32 (nv d0), .int .u32 (nv d1)]] w (Yes w) := by
  have he1 := hE Z hz hg1
  have he2 := hE Y hy hg2
  have HSZ := Lib.hid (And.intro (serr_enc Z hz hg1) (sgot_enc Z hz hg1))
  have HSY := Lib.hid (And.intro (serr_enc Y hy hg2) (sgot_enc Y hy hg2))
  have HCH : Hid (chSlot Z.enc Y.enc = 0 ∧ chSup Z.enc Y.enc = Z ∧ chErr Z.enc Y.enc = 0) := by
    show _ ∧ _
    have h := ch_le HSZ.out.1 HSY.out.1 (by rw [HSZ.out.2, HSY.out.2]; omega)
    rwa [HSZ.out.2] at h
  have hv1 := fun W => refValidS_any (Z.g : Int) Z.a (nv Z.e) Z.n (nv Z.s) W
  have hv2 := fun W => refValidS_any (Y.g : Int) Y.a (nv Y.e) Y.n (nv Y.s) W
  rw [(sok_iff Z).1 hz] at hv1
  rw [(sok_iff Y).1 hy] at hv2
  obtain ⟨F, hF⟩ : ∃ F, F = Z.enc := ⟨_, rfl⟩
  obtain ⟨Ye, hYe⟩ : ∃ F, F = Y.enc := ⟨_, rfl⟩
  have HF := Lib.hid hF
  have HYe := Lib.hid hYe
  have HFL := Lib.hid (show F.length = 64 by rw [hF, Z.enc_length])
  have hval1 : Z.val = .agg #[.int .u64 (Z.g : Int), .int .i64 Z.a, .int .u32 (nv Z.e), .int .i64 Z.n, .int .u32 (nv Z.s)] := rfl
  have hval2 : Y.val = .agg #[.int .u64 (Y.g : Int), .int .i64 Y.a, .int .u32 (nv Y.e), .int .i64 Y.n, .int .u32 (nv Y.s)] := rfl
  rw [hval1] at he1 ⊢
  rw [hval2] at he2 ⊢
  rw [← hF] at he1
  rw [← hYe] at he2
  have hcc : (Y.g : Int) < Z.g := by omega
  generalize hG : (Z.g : Int) = g at *
  generalize Z.a = a at *
  generalize nv Z.e = e at *
  generalize Z.n = n at *
  generalize nv Z.s = s at *
  generalize hG2 : (Y.g : Int) = tg at *
  generalize Y.a = ta at *
  generalize nv Y.e = te at *
  generalize Y.n = tn at *
  generalize nv Y.s = ts at *
  have HV1 := Lib.hid hval1
  have HV2 := Lib.hid hval2
  clear hval1 hval2 hF hYe hz hy hc hg1 hg2 hG hG2
  have t2 : (g == tg) = false := by simp; omega
  have hmx := fun (W : World) (ty : Array TypeId) (t : TypeId) => max64 (P := Try.prog) W ty t g tg g (by omega)
  clear hcc
  have I0 := DamI.start w #[.int .u64 g, .int .i64 a, .int .u32 e, .int .i64 n, .int .u32 s] #[.int .u64 tg, .int .i64 ta, .int .u32 te, .int .i64 tn, .int .u32 ts] #[.int .u32 (nv d0), .int .u32 (nv d1)]
  obtain ⟨p, hp⟩ : ∃ p, p = d1 ||| 1#32 := ⟨_, rfl⟩
  have hor := nv_or d1 1#32
  rw [← hp, show nv 1#32 = 1 by unfold nv; rfl] at hor
  have HP : Hid (p.toNat % 2 = 1) := Lib.hid (by rw [hp]; exact or_odd d1)
  obtain ⟨m, hm⟩ : ∃ m : Nat, nv d0 % 480 = (m : Int) := ⟨(nv d0 % 480).toNat, by have := nv_ge d0; omega⟩
  have hmb : m < 480 := by have := nv_ge d0; omega
  have hd0 := nv_ge d0
  have hd0' := nv_lt d0
  have hd1 := nv_ge d1
  have hd1' := nv_lt d1
  have hpg := nv_ge p
  have hpl := nv_lt p
  generalize nv d0 = x0 at *
  generalize nv d1 = x1 at *
  clear hp
  go_enter Try.func7, Try.ntmps7
  go_wp2_with fail
  refine (he1 _).mono ?_
  rintro r w1 ⟨⟨v, rfl, hown⟩, hw1⟩
  have I1 := I0.step hw1
  obtain ⟨ga, ca, rfl, hga0, hoA⟩ := hown
  have hga : w.heap.size + 1 < ga := by simp at hga0; omega
  obtain ⟨i0, i1, i2, i3, i4⟩ := row5 I1.r2
  clear I0 hw1 he1 hga0
  go_wp2_with fail
  refine (he2 _).mono ?_
  rintro r w2 ⟨⟨v, rfl, hown⟩, hw2⟩
  have I2 := I1.step hw2
  obtain ⟨gb, cb, rfl, hgb0, hoB⟩ := hown
  have hgb : gb ≠ ga := by have := hoA.lt; omega
  replace hoA := hoA.step hw2
  obtain ⟨j0, j1, j2, j3, j4⟩ := row5 I2.r1
  clear i0 i1 i2 i3 i4 I1 hw2 he2 hgb0
  go_wp2_with fail
  refine (hv1 _).mono ?_
  rintro r w3 ⟨rfl, hw3⟩
  have I3 := I2.step hw3
  replace hoA := hoA.step hw3
  replace hoB := hoB.step hw3
  obtain ⟨i0, i1, i2, i3, i4⟩ := row5 I3.r2
  clear j0 j1 j2 j3 j4 I2 hw3 hv1
  go_wp2_with fail
  refine (hv2 _).mono ?_
  rintro r w4 ⟨rfl, hw4⟩
  have I4 := I3.step hw4
  replace hoA := hoA.step hw4
  replace hoB := hoB.step hw4
  clear i0 i1 i2 i3 i4 I3 hw4 hv2
  have hcA := hoA.le
  have hcB := hoB.le
  have c1 := hC (some ⟨ga, 0, none⟩) (some ⟨gb, 0, none⟩) 64 ca 64 cb _ F Ye w4 hoA.has hoB.has hcA hcB (by omega) (by omega) (Nat.le_refl _)
  unfold SChoP at c1
  rw [HF.out, HYe.out, HCH.out.1, HCH.out.2.1, HCH.out.2.2, HV1.out] at c1
  have hda : decide ((64 : Int) ≤ 64) = true := rfl
  go_wp2_with fail
  refine c1.mono ?_
  rintro r w5 ⟨rfl, hw5⟩
  have I5 := I4.step hw5
  replace hoA := hoA.step hw5
  replace hoB := hoB.step hw5
  clear c1 I4 hw5
  go_upto_region 8 with fail
  obtain ⟨W5, hW5⟩ : ∃ x, x = w5.alloc (.cells #[.int .u64 g, .int .i64 a, .int .u32 e, .int .i64 n, .int .u32 s] 25) := ⟨_, rfl⟩
  have hb6 : Below w5.heap.size w5 W5 := by rw [hW5]; exact (Below.refl _ _).alloc (Nat.le_refl _) _
  have R12 : Row W5 w5.heap.size 25 #[.int .u64 g, .int .i64 a, .int .u32 e, .int .i64 n, .int .u32 s] := by rw [hW5]; exact row_new w5 _ _
  have I6 := I5.step hb6
  have h12a : w5.heap.size ≠ ga := by have := hoA.lt; omega
  have h12b : w5.heap.size ≠ gb := by have := hoB.lt; omega
  have h12c : w.heap.size + 1 < w5.heap.size := I5.r2.lt
  replace hoA := hoA.step hb6
  replace hoB := hoB.step hb6
  rw [← hW5]
  clear hW5 hb6 I5
  generalize w5.heap.size = b12 at *
  obtain ⟨i0, i1, i2, i3, i4⟩ := row5 I6.r1
  obtain ⟨j0, j1, j2, j3, j4⟩ := row5 I6.r2
  obtain ⟨k0, k1, k2, k3, k4⟩ := row5 R12
  go_upto_region 10 with fail
  clear i0 i1 i2 i3 i4 j0 j1 j2 j3 j4 k0 k1 k2 k3 k4 hmx
  have q0 : W5.cell? ⟨w.heap.size + 1 + 1, 0, none⟩ = some (.int .u32 x0) := I6.r3.cell (k := 0) (by simp)
  have q1 : W5.cell? ⟨w.heap.size + 1 + 1, 1, none⟩ = some (.int .u32 x1) := I6.r3.cell (k := 1) (by simp)
  go_quiet (fail)
  have HL : Hid (DamL w W5 ga ca gb cb b12 F Ye #[.int .u64 tg, .int .i64 ta, .int .u32 te, .int .i64 tn, .int .u32 ts] #[.int .u64 g, .int .i64 a, .int .u32 e, .int .i64 n, .int .u32 s]) := Lib.hid ⟨hoA, hoB, I6.r2, R12, I6.bel⟩
  clear I6 hoA hoB R12 q0 q1
  go_wp2_with fail
  clear hm hor hd0 hd0' hd1 hd1'
  go_loopw [16] (fun i wr => ∃ k : Nat, k ≤ 32 ∧ i = .int .i64 k ∧ Hid (DamL w wr ga ca gb cb b12 (flips F m p.toNat k) Ye #[.int .u64 tg, .int .i64 ta, .int .u32 te, .int .i64 tn, .int .u32 ts] #[.int .u64 g, .int .i64 a, .int .u32 e, .int .i64 n, .int .u32 s])) (fun i _ => 32 - (intOf i).toNat)
  case atStart => exact ⟨0, Nat.zero_le _, rfl, HL.out.1, HL.out.2.1, HL.out.2.2.1, HL.out.2.2.2.1, by first | exact HL.out.2.2.2.2 | exact below_drewN HL.out.2.2.2.2 _⟩
  case round =>
    obtain ⟨k, hk, rfl, HR⟩ := hrel
    by_cases hlt : k < 32
    · obtain ⟨sv, hs⟩ : ∃ s, nv p / 2 ^ k = s := ⟨_, rfl⟩
      have hs0 : 0 ≤ sv := by rw [← hs]; exact shr_ge0 p k
      have HS := Lib.hid hs
      obtain ⟨j, hj⟩ : ∃ j, j = m + k := ⟨_, rfl⟩
      have hsum : (m : Int) + (k : Int) = (j : Int) := by omega
      have HJ := Lib.hid hj
      have hjb : j ≤ 511 := by omega
      clear hs hj
      by_cases hbit : sv % 2 = 1
      · obtain ⟨q, hq⟩ : ∃ q, q = j / 8 := ⟨_, rfl⟩
        obtain ⟨r, hr⟩ : ∃ r, r = j % 8 := ⟨_, rfl⟩
        have hdiv : (j : Int) / 8 = (q : Int) := by omega
        have hmod2 : (j : Int) % 8 = (r : Int) := by omega
        have hr8 : r < 8 := by omega
        have hql : q < 64 := by omega
        have hcell := HR.out.1.cell hql
        have hfro := HR.out.1.frozen q
        obtain ⟨y, hy⟩ : ∃ y, y = (flips F m p.toNat k).getD q 0 := ⟨_, rfl⟩
        have hx := xor_u8 y (mask8 r)
        have hw := mask8_pow r hr8
        obtain ⟨yv, hyv⟩ : ∃ v : Int, v = (y.toNat : Int) := ⟨_, rfl⟩
        obtain ⟨mv, hmv⟩ : ∃ v : Int, v = ((mask8 r).toNat : Int) := ⟨_, rfl⟩
        obtain ⟨zv, hzv⟩ : ∃ v : Int, v = ((y ^^^ mask8 r).toNat : Int) := ⟨_, rfl⟩
        rw [← hy, ← hyv] at hcell
        rw [← hyv, ← hmv, ← hzv] at hx
        rw [← hmv] at hw
        have HQ := Lib.hid hq
        have HR8 := Lib.hid hr
        have HY := Lib.hid hy
        have HZ := Lib.hid hzv
        have HHIT := Lib.hid (show hits F.length m p.toNat k = true by
          unfold hits
          rw [decide_eq_true ((nv_bit HS.out).2 hbit), decide_eq_true (by rw [HFL.out, ← HJ.out, ← HQ.out]; exact hql)]
          rfl)
        have hq64 : (q : Int) < 64 := by omega
        clear hq hr hy hyv hmv hzv
        go_wp2_with (refine wpList_shr32 _ rfl _ _ _ _ rfl ty_u32 _ k hk (by exact rfl) (by exact rfl) sv HS.out ?_)
        go_region
        go_wp2
        go_roundw
        case rel =>
          refine ⟨k + 1, by omega, by go_num, ?_, HR.out.2.1.other hgb _, row_other HR.out.2.2.1 (Nat.ne_of_lt hga) _, row_other HR.out.2.2.2.1 h12a _, (HR.out.2.2.2.2.setCell (p := ⟨ga, q, none⟩) (Nat.le_of_lt (Nat.lt_of_succ_lt hga)) _).drew⟩
          rw [flips_hit HHIT.out, ← HJ.out, ← HQ.out, ← HR8.out, ← HY.out]
          exact HR.out.1.set_cell hql _ _ HZ.out
        case measure => simp [intOf]; omega
      · have hbit0 : sv % 2 = 0 := by omega
        have HM := Lib.hid (show ¬ hits F.length m p.toNat k = true by unfold hits; rw [decide_eq_false (fun h => hbit ((nv_bit HS.out).1 h))]; simp)
        clear hbit
        go_wp2_with (refine wpList_shr32 _ rfl _ _ _ _ rfl ty_u32 _ k hk (by exact rfl) (by exact rfl) sv HS.out ?_)
        go_roundw
        case rel =>
          refine ⟨k + 1, by omega, by go_num, ?_⟩
          rw [flips_miss HM.out]
          exact HR.out
        case measure => simp [intOf]; omega
    · obtain rfl : k = 32 := by omega
      obtain ⟨D, hD0⟩ : ∃ D, D = flips F m p.toNat 32 := ⟨_, rfl⟩
      have h7 : serr D = 7 := by rw [hD0, HF.out]; exact serr_burst Z m p.toNat (by omega) HP.out
      have h0 : serr Ye = 0 := by rw [HYe.out]; exact HSY.out.1
      have hgot : sgot Ye = Y := by rw [HYe.out]; exact HSY.out.2
      obtain ⟨u1, u2, u3⟩ := ch_b (a := D) (b := Ye) (by rw [h7]; decide) h0
      obtain ⟨v1, v2, v3⟩ := ch_a (a := Ye) (b := D) h0 (by rw [h7]; decide)
      rw [hgot] at u2 v2
      have hR := HR.out
      rw [← hD0] at hR
      obtain ⟨oA, oB, r2, r12, hbw⟩ := hR
      have c1 := hC (some ⟨ga, 0, none⟩) (some ⟨gb, 0, none⟩) 64 ca 64 cb _ D Ye wr oA.has oB.has hcA hcB (by omega) (by omega) (Nat.le_refl _)
      unfold SChoP at c1
      rw [u1, u2, u3, HV2.out] at c1
      go_wp2_with fail
      refine c1.mono ?_
      rintro r w7 ⟨rfl, hw7⟩
      have hs7 := hbw.size
      replace oA := oA.step hw7
      replace oB := oB.step hw7
      replace r2 := r2.below hw7 r2.lt
      replace r12 := r12.below hw7 r12.lt
      replace hbw := hbw.trans (hw7.mono hbw.size)
      clear c1 hw7 hs7 u1 u2 u3
      go_wp2_with (refine wpList_store_arr _ rfl rfl _ _ _ rfl b12 (by exact rfl) #[.int .u64 tg, .int .i64 ta, .int .u32 te, .int .i64 tn, .int .u32 ts] (by exact rfl) _ _ r12 supSize rfl (sup_one _ _ _ _ _) ?_; intro w8 r12' hg8)
      replace oA := oA.grown hg8 (Ne.symm h12a)
      replace oB := oB.grown hg8 (Ne.symm h12b)
      replace r2 := r2.grown hg8 (Nat.ne_of_lt h12c)
      replace hbw := below_row hbw hg8 (Nat.le_refl _) (by omega)
      have c2 := hC (some ⟨gb, 0, none⟩) (some ⟨ga, 0, none⟩) 64 cb 64 ca _ Ye D w8 oB.has oA.has hcB hcA (by omega) (by omega) (Nat.le_refl _)
      unfold SChoP at c2
      rw [v1, v2, v3, HV2.out] at c2
      refine c2.mono ?_
      rintro r w9 ⟨rfl, hw9⟩
      replace r2 := r2.below hw9 r2.lt
      replace r12' := r12'.below hw9 r12'.lt
      replace hbw := hbw.trans (hw9.mono hbw.size)
      clear c2 hw9 oA oB r12 hg8 v1 v2 v3
      go_upto_region 18 with fail
      obtain ⟨W9, hW9⟩ : ∃ x, x = w9.alloc (.cells #[.int .u64 tg, .int .i64 ta, .int .u32 te, .int .i64 tn, .int .u32 ts] 25) := ⟨_, rfl⟩
      obtain ⟨i0, i1, i2, i3, i4⟩ := row5 (show Row W9 (w.heap.size + 1) 25 #[.int .u64 tg, .int .i64 ta, .int .u32 te, .int .i64 tn, .int .u32 ts] by rw [hW9]; exact r2.grown0 (World.grownBy_alloc w9 _ _))
      obtain ⟨j0, j1, j2, j3, j4⟩ := row5 (show Row W9 b12 25 #[.int .u64 tg, .int .i64 ta, .int .u32 te, .int .i64 tn, .int .u32 ts] by rw [hW9]; exact r12'.grown0 (World.grownBy_alloc w9 _ _))
      obtain ⟨k0, k1, k2, k3, k4⟩ := row5 (show Row W9 w9.heap.size 25 #[.int .u64 tg, .int .i64 ta, .int .u32 te, .int .i64 tn, .int .u32 ts] by rw [hW9]; exact row_new w9 _ _)
      have hbf : Below w.heap.size w W9 := by rw [hW9]; exact hbw.alloc hbw.size _
      rw [← hW9]
      clear hW9 hbw r2 r12'
      go_wp2_with fail
      refine (awake9_any hE hD hC _).mono ?_
      rintro r wz ⟨rfl, hbz⟩
      go_wp2
      go_ret
      exact ⟨rfl, hbf.trans (hbz.mono hbf.size)⟩

set_option maxRecDepth 20000 in
set_option maxHeartbeats 8000000 in
theorem dam_eq (hN : EncNo 9) (hE : EncYes 9) (hD : DecOk 11) (hC : ChoOk 18) (Z Y : Sup) (d0 d1 : W32) (w : World)
    (hg1 : Z.g < 18446744073709551616) (hg2 : Y.g < 18446744073709551616) (hz : Z.ok) (hy : Y.ok) (hc : Z.g = Y.g) :
    Calls Try.prog 7 #[Z.val, Y.val, .agg #[.int .u32 (nv d0), .int .u32 (nv d1)]] w (Yes w) := by
  have he1 := hE Z hz hg1
  have he2 := hE Y hy hg2
  have HSZ := Lib.hid (And.intro (serr_enc Z hz hg1) (sgot_enc Z hz hg1))
  have HSY := Lib.hid (And.intro (serr_enc Y hy hg2) (sgot_enc Y hy hg2))
  have HCH : Hid (chSlot Z.enc Y.enc = 0 ∧ chSup Z.enc Y.enc = Z ∧ chErr Z.enc Y.enc = 0) := by
    show _ ∧ _
    have h := ch_le HSZ.out.1 HSY.out.1 (by rw [HSZ.out.2, HSY.out.2]; omega)
    rwa [HSZ.out.2] at h
  have hv1 := fun W => refValidS_any (Z.g : Int) Z.a (nv Z.e) Z.n (nv Z.s) W
  have hv2 := fun W => refValidS_any (Y.g : Int) Y.a (nv Y.e) Y.n (nv Y.s) W
  rw [(sok_iff Z).1 hz] at hv1
  rw [(sok_iff Y).1 hy] at hv2
  obtain ⟨F, hF⟩ : ∃ F, F = Z.enc := ⟨_, rfl⟩
  obtain ⟨Ye, hYe⟩ : ∃ F, F = Y.enc := ⟨_, rfl⟩
  have HF := Lib.hid hF
  have HYe := Lib.hid hYe
  have HFL := Lib.hid (show F.length = 64 by rw [hF, Z.enc_length])
  have hval1 : Z.val = .agg #[.int .u64 (Z.g : Int), .int .i64 Z.a, .int .u32 (nv Z.e), .int .i64 Z.n, .int .u32 (nv Z.s)] := rfl
  have hval2 : Y.val = .agg #[.int .u64 (Y.g : Int), .int .i64 Y.a, .int .u32 (nv Y.e), .int .i64 Y.n, .int .u32 (nv Y.s)] := rfl
  rw [hval1] at he1 ⊢
  rw [hval2] at he2 ⊢
  rw [← hF] at he1
  rw [← hYe] at he2
  have hcc : (Z.g : Int) = Y.g := by omega
  generalize hG : (Z.g : Int) = g at *
  generalize Z.a = a at *
  generalize nv Z.e = e at *
  generalize Z.n = n at *
  generalize nv Z.s = s at *
  generalize hG2 : (Y.g : Int) = tg at *
  generalize Y.a = ta at *
  generalize nv Y.e = te at *
  generalize Y.n = tn at *
  generalize nv Y.s = ts at *
  have HV1 := Lib.hid hval1
  have HV2 := Lib.hid hval2
  clear hval1 hval2 hF hYe hz hy hc hg1 hg2 hG hG2
  have t2 : (g == tg) = true := by simp; omega
  have hmx := fun (W : World) (ty : Array TypeId) (t : TypeId) => max64 (P := Try.prog) W ty t g tg g (by omega)
  clear hcc
  have I0 := DamI.start w #[.int .u64 g, .int .i64 a, .int .u32 e, .int .i64 n, .int .u32 s] #[.int .u64 tg, .int .i64 ta, .int .u32 te, .int .i64 tn, .int .u32 ts] #[.int .u32 (nv d0), .int .u32 (nv d1)]
  obtain ⟨p, hp⟩ : ∃ p, p = d1 ||| 1#32 := ⟨_, rfl⟩
  have hor := nv_or d1 1#32
  rw [← hp, show nv 1#32 = 1 by unfold nv; rfl] at hor
  have HP : Hid (p.toNat % 2 = 1) := Lib.hid (by rw [hp]; exact or_odd d1)
  obtain ⟨m, hm⟩ : ∃ m : Nat, nv d0 % 480 = (m : Int) := ⟨(nv d0 % 480).toNat, by have := nv_ge d0; omega⟩
  have hmb : m < 480 := by have := nv_ge d0; omega
  have hd0 := nv_ge d0
  have hd0' := nv_lt d0
  have hd1 := nv_ge d1
  have hd1' := nv_lt d1
  have hpg := nv_ge p
  have hpl := nv_lt p
  generalize nv d0 = x0 at *
  generalize nv d1 = x1 at *
  clear hp
  go_enter Try.func7, Try.ntmps7
  go_wp2_with fail
  refine (he1 _).mono ?_
  rintro r w1 ⟨⟨v, rfl, hown⟩, hw1⟩
  have I1 := I0.step hw1
  obtain ⟨ga, ca, rfl, hga0, hoA⟩ := hown
  have hga : w.heap.size + 1 < ga := by simp at hga0; omega
  obtain ⟨i0, i1, i2, i3, i4⟩ := row5 I1.r2
  clear I0 hw1 he1 hga0
  go_wp2_with fail
  refine (he2 _).mono ?_
  rintro r w2 ⟨⟨v, rfl, hown⟩, hw2⟩
  have I2 := I1.step hw2
  obtain ⟨gb, cb, rfl, hgb0, hoB⟩ := hown
  have hgb : gb ≠ ga := by have := hoA.lt; omega
  replace hoA := hoA.step hw2
  obtain ⟨j0, j1, j2, j3, j4⟩ := row5 I2.r1
  clear i0 i1 i2 i3 i4 I1 hw2 he2 hgb0
  go_wp2_with fail
  refine (hv1 _).mono ?_
  rintro r w3 ⟨rfl, hw3⟩
  have I3 := I2.step hw3
  replace hoA := hoA.step hw3
  replace hoB := hoB.step hw3
  obtain ⟨i0, i1, i2, i3, i4⟩ := row5 I3.r2
  clear j0 j1 j2 j3 j4 I2 hw3 hv1
  go_wp2_with fail
  refine (hv2 _).mono ?_
  rintro r w4 ⟨rfl, hw4⟩
  have I4 := I3.step hw4
  replace hoA := hoA.step hw4
  replace hoB := hoB.step hw4
  clear i0 i1 i2 i3 i4 I3 hw4 hv2
  have hcA := hoA.le
  have hcB := hoB.le
  have c1 := hC (some ⟨ga, 0, none⟩) (some ⟨gb, 0, none⟩) 64 ca 64 cb _ F Ye w4 hoA.has hoB.has hcA hcB (by omega) (by omega) (Nat.le_refl _)
  unfold SChoP at c1
  rw [HF.out, HYe.out, HCH.out.1, HCH.out.2.1, HCH.out.2.2, HV1.out] at c1
  have hda : decide ((64 : Int) ≤ 64) = true := rfl
  go_wp2_with fail
  refine c1.mono ?_
  rintro r w5 ⟨rfl, hw5⟩
  have I5 := I4.step hw5
  replace hoA := hoA.step hw5
  replace hoB := hoB.step hw5
  clear c1 I4 hw5
  go_upto_region 8 with fail
  obtain ⟨W5, hW5⟩ : ∃ x, x = w5.alloc (.cells #[.int .u64 g, .int .i64 a, .int .u32 e, .int .i64 n, .int .u32 s] 25) := ⟨_, rfl⟩
  have hb6 : Below w5.heap.size w5 W5 := by rw [hW5]; exact (Below.refl _ _).alloc (Nat.le_refl _) _
  have R12 : Row W5 w5.heap.size 25 #[.int .u64 g, .int .i64 a, .int .u32 e, .int .i64 n, .int .u32 s] := by rw [hW5]; exact row_new w5 _ _
  have I6 := I5.step hb6
  have h12a : w5.heap.size ≠ ga := by have := hoA.lt; omega
  have h12b : w5.heap.size ≠ gb := by have := hoB.lt; omega
  have h12c : w.heap.size + 1 < w5.heap.size := I5.r2.lt
  replace hoA := hoA.step hb6
  replace hoB := hoB.step hb6
  rw [← hW5]
  clear hW5 hb6 I5
  generalize w5.heap.size = b12 at *
  obtain ⟨i0, i1, i2, i3, i4⟩ := row5 I6.r1
  obtain ⟨j0, j1, j2, j3, j4⟩ := row5 I6.r2
  obtain ⟨k0, k1, k2, k3, k4⟩ := row5 R12
  go_upto_region 10 with fail
  clear i0 i1 i2 i3 i4 j0 j1 j2 j3 j4 k0 k1 k2 k3 k4 hmx
  have q0 : W5.cell? ⟨w.heap.size + 1 + 1, 0, none⟩ = some (.int .u32 x0) := I6.r3.cell (k := 0) (by simp)
  have q1 : W5.cell? ⟨w.heap.size + 1 + 1, 1, none⟩ = some (.int .u32 x1) := I6.r3.cell (k := 1) (by simp)
  go_quiet (fail)
  have HL : Hid (DamL w W5 ga ca gb cb b12 F Ye #[.int .u64 tg, .int .i64 ta, .int .u32 te, .int .i64 tn, .int .u32 ts] #[.int .u64 g, .int .i64 a, .int .u32 e, .int .i64 n, .int .u32 s]) := Lib.hid ⟨hoA, hoB, I6.r2, R12, I6.bel⟩
  clear I6 hoA hoB R12 q0 q1
  go_wp2_with fail
  clear hm hor hd0 hd0' hd1 hd1'
  go_loopw [16] (fun i wr => ∃ k : Nat, k ≤ 32 ∧ i = .int .i64 k ∧ Hid (DamL w wr ga ca gb cb b12 (flips F m p.toNat k) Ye #[.int .u64 tg, .int .i64 ta, .int .u32 te, .int .i64 tn, .int .u32 ts] #[.int .u64 g, .int .i64 a, .int .u32 e, .int .i64 n, .int .u32 s])) (fun i _ => 32 - (intOf i).toNat)
  case atStart => exact ⟨0, Nat.zero_le _, rfl, HL.out.1, HL.out.2.1, HL.out.2.2.1, HL.out.2.2.2.1, by first | exact HL.out.2.2.2.2 | exact below_drewN HL.out.2.2.2.2 _⟩
  case round =>
    obtain ⟨k, hk, rfl, HR⟩ := hrel
    by_cases hlt : k < 32
    · obtain ⟨sv, hs⟩ : ∃ s, nv p / 2 ^ k = s := ⟨_, rfl⟩
      have hs0 : 0 ≤ sv := by rw [← hs]; exact shr_ge0 p k
      have HS := Lib.hid hs
      obtain ⟨j, hj⟩ : ∃ j, j = m + k := ⟨_, rfl⟩
      have hsum : (m : Int) + (k : Int) = (j : Int) := by omega
      have HJ := Lib.hid hj
      have hjb : j ≤ 511 := by omega
      clear hs hj
      by_cases hbit : sv % 2 = 1
      · obtain ⟨q, hq⟩ : ∃ q, q = j / 8 := ⟨_, rfl⟩
        obtain ⟨r, hr⟩ : ∃ r, r = j % 8 := ⟨_, rfl⟩
        have hdiv : (j : Int) / 8 = (q : Int) := by omega
        have hmod2 : (j : Int) % 8 = (r : Int) := by omega
        have hr8 : r < 8 := by omega
        have hql : q < 64 := by omega
        have hcell := HR.out.1.cell hql
        have hfro := HR.out.1.frozen q
        obtain ⟨y, hy⟩ : ∃ y, y = (flips F m p.toNat k).getD q 0 := ⟨_, rfl⟩
        have hx := xor_u8 y (mask8 r)
        have hw := mask8_pow r hr8
        obtain ⟨yv, hyv⟩ : ∃ v : Int, v = (y.toNat : Int) := ⟨_, rfl⟩
        obtain ⟨mv, hmv⟩ : ∃ v : Int, v = ((mask8 r).toNat : Int) := ⟨_, rfl⟩
        obtain ⟨zv, hzv⟩ : ∃ v : Int, v = ((y ^^^ mask8 r).toNat : Int) := ⟨_, rfl⟩
        rw [← hy, ← hyv] at hcell
        rw [← hyv, ← hmv, ← hzv] at hx
        rw [← hmv] at hw
        have HQ := Lib.hid hq
        have HR8 := Lib.hid hr
        have HY := Lib.hid hy
        have HZ := Lib.hid hzv
        have HHIT := Lib.hid (show hits F.length m p.toNat k = true by
          unfold hits
          rw [decide_eq_true ((nv_bit HS.out).2 hbit), decide_eq_true (by rw [HFL.out, ← HJ.out, ← HQ.out]; exact hql)]
          rfl)
        have hq64 : (q : Int) < 64 := by omega
        clear hq hr hy hyv hmv hzv
        go_wp2_with (refine wpList_shr32 _ rfl _ _ _ _ rfl ty_u32 _ k hk (by exact rfl) (by exact rfl) sv HS.out ?_)
        go_region
        go_wp2
        go_roundw
        case rel =>
          refine ⟨k + 1, by omega, by go_num, ?_, HR.out.2.1.other hgb _, row_other HR.out.2.2.1 (Nat.ne_of_lt hga) _, row_other HR.out.2.2.2.1 h12a _, (HR.out.2.2.2.2.setCell (p := ⟨ga, q, none⟩) (Nat.le_of_lt (Nat.lt_of_succ_lt hga)) _).drew⟩
          rw [flips_hit HHIT.out, ← HJ.out, ← HQ.out, ← HR8.out, ← HY.out]
          exact HR.out.1.set_cell hql _ _ HZ.out
        case measure => simp [intOf]; omega
      · have hbit0 : sv % 2 = 0 := by omega
        have HM := Lib.hid (show ¬ hits F.length m p.toNat k = true by unfold hits; rw [decide_eq_false (fun h => hbit ((nv_bit HS.out).1 h))]; simp)
        clear hbit
        go_wp2_with (refine wpList_shr32 _ rfl _ _ _ _ rfl ty_u32 _ k hk (by exact rfl) (by exact rfl) sv HS.out ?_)
        go_roundw
        case rel =>
          refine ⟨k + 1, by omega, by go_num, ?_⟩
          rw [flips_miss HM.out]
          exact HR.out
        case measure => simp [intOf]; omega
    · obtain rfl : k = 32 := by omega
      obtain ⟨D, hD0⟩ : ∃ D, D = flips F m p.toNat 32 := ⟨_, rfl⟩
      have h7 : serr D = 7 := by rw [hD0, HF.out]; exact serr_burst Z m p.toNat (by omega) HP.out
      have h0 : serr Ye = 0 := by rw [HYe.out]; exact HSY.out.1
      have hgot : sgot Ye = Y := by rw [HYe.out]; exact HSY.out.2
      obtain ⟨u1, u2, u3⟩ := ch_b (a := D) (b := Ye) (by rw [h7]; decide) h0
      obtain ⟨v1, v2, v3⟩ := ch_a (a := Ye) (b := D) h0 (by rw [h7]; decide)
      rw [hgot] at u2 v2
      have hR := HR.out
      rw [← hD0] at hR
      obtain ⟨oA, oB, r2, r12, hbw⟩ := hR
      have c1 := hC (some ⟨ga, 0, none⟩) (some ⟨gb, 0, none⟩) 64 ca 64 cb _ D Ye wr oA.has oB.has hcA hcB (by omega) (by omega) (Nat.le_refl _)
      unfold SChoP at c1
      rw [u1, u2, u3, HV2.out] at c1
      go_wp2_with fail
      refine c1.mono ?_
      rintro r w7 ⟨rfl, hw7⟩
      have hs7 := hbw.size
      replace oA := oA.step hw7
      replace oB := oB.step hw7
      replace r2 := r2.below hw7 r2.lt
      replace r12 := r12.below hw7 r12.lt
      replace hbw := hbw.trans (hw7.mono hbw.size)
      clear c1 hw7 hs7 u1 u2 u3
      go_wp2_with (refine wpList_store_arr _ rfl rfl _ _ _ rfl b12 (by exact rfl) #[.int .u64 tg, .int .i64 ta, .int .u32 te, .int .i64 tn, .int .u32 ts] (by exact rfl) _ _ r12 supSize rfl (sup_one _ _ _ _ _) ?_; intro w8 r12' hg8)
      replace oA := oA.grown hg8 (Ne.symm h12a)
      replace oB := oB.grown hg8 (Ne.symm h12b)
      replace r2 := r2.grown hg8 (Nat.ne_of_lt h12c)
      replace hbw := below_row hbw hg8 (Nat.le_refl _) (by omega)
      have c2 := hC (some ⟨gb, 0, none⟩) (some ⟨ga, 0, none⟩) 64 cb 64 ca _ Ye D w8 oB.has oA.has hcB hcA (by omega) (by omega) (Nat.le_refl _)
      unfold SChoP at c2
      rw [v1, v2, v3, HV2.out] at c2
      refine c2.mono ?_
      rintro r w9 ⟨rfl, hw9⟩
      replace r2 := r2.below hw9 r2.lt
      replace r12' := r12'.below hw9 r12'.lt
      replace hbw := hbw.trans (hw9.mono hbw.size)
      clear c2 hw9 oA oB r12 hg8 v1 v2 v3
      go_upto_region 18 with fail
      obtain ⟨W9, hW9⟩ : ∃ x, x = w9.alloc (.cells #[.int .u64 tg, .int .i64 ta, .int .u32 te, .int .i64 tn, .int .u32 ts] 25) := ⟨_, rfl⟩
      obtain ⟨i0, i1, i2, i3, i4⟩ := row5 (show Row W9 (w.heap.size + 1) 25 #[.int .u64 tg, .int .i64 ta, .int .u32 te, .int .i64 tn, .int .u32 ts] by rw [hW9]; exact r2.grown0 (World.grownBy_alloc w9 _ _))
      obtain ⟨j0, j1, j2, j3, j4⟩ := row5 (show Row W9 b12 25 #[.int .u64 tg, .int .i64 ta, .int .u32 te, .int .i64 tn, .int .u32 ts] by rw [hW9]; exact r12'.grown0 (World.grownBy_alloc w9 _ _))
      obtain ⟨k0, k1, k2, k3, k4⟩ := row5 (show Row W9 w9.heap.size 25 #[.int .u64 tg, .int .i64 ta, .int .u32 te, .int .i64 tn, .int .u32 ts] by rw [hW9]; exact row_new w9 _ _)
      have hbf : Below w.heap.size w W9 := by rw [hW9]; exact hbw.alloc hbw.size _
      rw [← hW9]
      clear hW9 hbw r2 r12'
      go_wp2_with fail
      refine (awake9_any hE hD hC _).mono ?_
      rintro r wz ⟨rfl, hbz⟩
      go_wp2
      go_ret
      exact ⟨rfl, hbf.trans (hbz.mono hbf.size)⟩

theorem walkDam (hN : EncNo 9) (hE : EncYes 9) (hD : DecOk 11) (hC : ChoOk 18) (Z Y : Sup) (d0 d1 : W32) (w : World)
    (hz : Z.g < 18446744073709551616 ∧ (-9223372036854775808 ≤ Z.a ∧ Z.a ≤ 9223372036854775807) ∧ (-9223372036854775808 ≤ Z.n ∧ Z.n ≤ 9223372036854775807))
    (hy : Y.g < 18446744073709551616 ∧ (-9223372036854775808 ≤ Y.a ∧ Y.a ≤ 9223372036854775807) ∧ (-9223372036854775808 ≤ Y.n ∧ Y.n ≤ 9223372036854775807)) :
    Calls Try.prog 7 #[Z.val, Y.val, .agg #[.int .u32 (nv d0), .int .u32 (nv d1)]] w (Yes w) := by
  by_cases h1 : Z.ok ∧ Y.ok
  · rcases Nat.lt_trichotomy Z.g Y.g with h | h | h
    · exact dam_lt hN hE hD hC Z Y d0 d1 w hz.1 hy.1 h1.1 h1.2 h
    · exact dam_eq hN hE hD hC Z Y d0 d1 w hz.1 hy.1 h1.1 h1.2 h
    · exact dam_gt hN hE hD hC Z Y d0 d1 w hz.1 hy.1 h1.1 h1.2 h
  · exact dam_no hN hE hD hC Z Y d0 d1 w hz.1 hy.1 h1

end Go.Proofs.Ytdahnkampjkelaa
