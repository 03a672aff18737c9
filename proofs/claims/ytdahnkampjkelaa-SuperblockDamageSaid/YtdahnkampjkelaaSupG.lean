/-
  Contract of the program's Encode of superblocks.
-/
import Derived.Test.YtdahnkampjkelaaSupF
import Derived.StillTailTactics
namespace Go.Proofs.Ytdahnkampjkelaa
open Go.RowKit

set_option maxHeartbeats 1600000 in
theorem pN : EncNo 9 := by
  intro Z h w
  have h' : sok Z.a Z.n = false := by rw [sok_iff] at h; simpa using h
  obtain ⟨g, a, e, n, s⟩ := Z
  have hv := pV g a (nv e) n (nv s)
  unfold Sup.val
  simp only at h' hv ⊢
  rw [h'] at hv
  go_enter Try.func9, Try.ntmps9
  go_wp2_with fail
  refine (hv _).mono ?_
  rintro r w1 ⟨rfl, hb⟩
  go_wp2
  go_ret2
  exact ⟨rfl, ((Below.refl _ _).alloc (Nat.le_refl _) _).trans (hb.mono (by simp))⟩

theorem fixedB_cells (s : W32) : ∃ a b c d, fixedB s = [a, b, c, d] := ⟨_, _, _, _, rfl⟩
theorem info64 : (Try.prog.info? 43).map (fun i => (i.zero, i.size)) = some (some (.agg (zeros 64)), 64) := by kernel_rfl
theorem zero64 : ∀ w, (zeroValue 43).run Try.prog w = .ok (.agg (zeros 64)) w := by
  intro w
  cases hi : Try.prog.info? 43 with
  | none => have := info64; rw [hi] at this; cases this
  | some i =>
    have := info64
    rw [hi] at this
    simp only [Option.map_some, Option.some.injEq, Prod.mk.injEq] at this
    simp [zeroValue, typeInfo, hi, this.1]
/-- The bytes ahead of the checksum, and all bytes. -/
def encM (Z : Sup) : List UInt8 := setB (setB (setB (setB (((setB (List.replicate 64 0) 0 [72, 83, 84, 83]).set 4 1).set 5 (UInt8.ofNat Z.a.toNat)) 6 (fixedB (BitVec.ofNat 32 Z.g) ++ fixedB (BitVec.ofNat 32 (Z.g / 4294967296)))) 14 (fixedB Z.e)) 18 (fixedB (BitVec.ofNat 32 Z.n.toNat))) 22 (fixedB Z.s)
theorem enc_list (Z : Sup) : (encM Z).take 60 = Z.body ∧ ∀ c, setB (encM Z) 60 (fixedB c) = Z.body ++ fixedB c := by
  unfold Sup.body Sup.hd encM
  obtain ⟨a0, a1, a2, a3, ha⟩ := fixedB_cells (BitVec.ofNat 32 Z.g)
  obtain ⟨b0, b1, b2, b3, hb⟩ := fixedB_cells (BitVec.ofNat 32 (Z.g / 4294967296))
  obtain ⟨c0, c1, c2, c3, hc⟩ := fixedB_cells Z.e
  obtain ⟨d0, d1, d2, d3, hd⟩ := fixedB_cells (BitVec.ofNat 32 Z.n.toNat)
  obtain ⟨e0, e1, e2, e3, he⟩ := fixedB_cells Z.s
  rw [ha, hb, hc, hd, he]
  generalize UInt8.ofNat Z.a.toNat = x
  refine ⟨by kernel_rfl, fun c => ?_⟩
  obtain ⟨f0, f1, f2, f3, hf⟩ := fixedB_cells c
  rw [hf]
  kernel_rfl

/-- A store into bytes of one's own. -/
theorem wpList_store_own {P : Program} {w : World} {ops : Array Oper} {rest : List Oper} {o : Oper} {a : Act} {Q : Exit → Act → World → Prop} (hgd : o.guard = none) (hd : o.dst = none) (t : TypeId) (p x : Operand) (ho : o.op = .store t p x)
    (g k : Nat) (hp : a.eval p = .pointer (some ⟨g, k, none⟩)) (v : Int) (hx : a.eval x = .int .u8 v) (hi : (P.info? t).map (·.size) = some 1) (cap n : Nat) (l : List UInt8) (hO : OwnE w g cap n l) (hk : k < n) (b : UInt8) (hv : v = (b.toNat : Int))
    (B : Nat) (w0 : World) (hb : Below B w0 w) (hB : B ≤ w0.heap.size) (hBg : B ≤ g)
    (h : ∀ w', OwnE w' g cap n (l.set k b) → Below B w0 w' → wpList P ops Q rest a w') : wpList P ops Q (o :: rest) a w := by
  obtain ⟨t', cur, hr, hs, hnc, ht⟩ := hO
  refine wpList_store_cell w hgd hd t p x ho g k hp (.int .u8 v) hx rfl t' cur hr (by omega) hi ?_
  intro w' hr' hg'
  refine h w' ⟨t', _, hr', by simpa using hs, hnc, ?_⟩ (below_row hb hg' hB hBg)
  rw [Array.toList_setIfInBounds, List.take_set, ht, List.map_set, hv]
  rfl

set_option maxHeartbeats 4000000 in
theorem pE : EncYes 9 := by
  intro Z h hgl w
  have h' := (sok_iff Z).1 h
  have HEL := Lib.hid (enc_list Z)
  have HE : Hid (Z.enc = Z.body ++ fixedB (crcSum Z.body)) := by show _ = _; rfl
  obtain ⟨g, a, e, n, s⟩ := Z
  have hv := pV g a (nv e) n (nv s)
  unfold Sup.ok at h
  unfold Sup.val
  simp only at h h' hv hgl HEL ⊢
  rw [h'] at hv
  obtain ⟨G, hG⟩ : ∃ G : Int, G = (g : Int) := ⟨_, rfl⟩
  rw [← hG] at hv ⊢
  have hG0 : 0 ≤ G := by omega
  have hG1 : G < 18446744073709551616 := by omega
  have HGN : Hid (G.toNat = g) := by show _ = _; omega
  have hn0 : 0 ≤ n := h.2.1
  have hn1 : n ≤ 262144 := h.2.2
  have HAV : Hid (a % 256 = ((UInt8.ofNat a.toNat).toNat : Int)) := by
    show _ = _
    rw [UInt8.toNat_ofNat']
    omega
  have HBOX := Lib.hid (SupAt.box w G a (nv e) n (nv s) 25)
  have hW : w.heap.size < (w.alloc (.cells #[.int .u64 G, .int .i64 a, .int .u32 (nv e), .int .i64 n, .int .u32 (nv s)] 25)).heap.size := by simp
  have HB0 := Lib.hid ((Below.refl w.heap.size w).alloc (Nat.le_refl _) (.cells #[.int .u64 G, .int .i64 a, .int .u32 (nv e), .int .i64 n, .int .u32 (nv s)] 25))
  obtain ⟨ev, hev⟩ : ∃ x, x = nv e := ⟨_, rfl⟩
  obtain ⟨sv, hsv⟩ : ∃ x, x = nv s := ⟨_, rfl⟩
  have hev0 : 0 ≤ ev := by rw [hev]; exact nv_ge e
  have hev1 : ev < 4294967296 := by rw [hev]; exact nv_lt e
  have hsv0 : 0 ≤ sv := by rw [hsv]; exact nv_ge s
  have hsv1 : sv < 4294967296 := by rw [hsv]; exact nv_lt s
  have HEV : Hid (BitVec.ofNat 32 ev.toNat = e) := by show _ = _; rw [hev]; unfold nv; simp
  have HSV : Hid (BitVec.ofNat 32 sv.toNat = s) := by show _ = _; rw [hsv]; unfold nv; simp
  rw [← hev, ← hsv] at hv HBOX hW HB0 ⊢
  clear h h' hG hgl hev hsv
  go_enter Try.func9, Try.ntmps9
  go_wp2_with fail
  obtain ⟨W0, hW0⟩ : ∃ W0, W0 = w.alloc (.cells #[.int .u64 G, .int .i64 a, .int .u32 ev, .int .i64 n, .int .u32 sv] 25) := ⟨_, rfl⟩
  rw [← hW0] at HBOX hW HB0 ⊢
  refine (hv W0).mono ?_
  rintro r w1 ⟨rfl, hb1⟩
  obtain ⟨e0, e1, e2, e3, e4⟩ := HBOX.out.below hb1 hW
  clear hv hW0
  go_wp2_with (first
    | (refine wpList_alloc_arr _ rfl 4 rfl _ rfl _ zero64 ?_
       intro w2 g2 hg2 hl2 hr2 hgr2
       have hb2 := below_row0 hb1 hgr2 (Nat.le_refl _)
       have hBg : W0.heap.size ≤ g2 := Nat.le_trans hb1.size hg2
       have hO2 : OwnE w2 g2 64 64 (List.replicate 64 0) := ⟨_, _, hr2, by simp [zeros], Nat.le_refl _, by simp [zeros, bv]⟩
       clear hb1 hg2 hl2 hr2 hgr2)
    | (refine wpList_copy_text rfl _ _ _ rfl g2 64 64 (by exact rfl) _ (by exact rfl) (by decide) 64 _ hO2 W0.heap.size W0 hb2 hBg ?_
       intro w3 hO3 hb3
       clear hO2 hb2)
    | (refine wpList_store_own rfl rfl _ _ _ rfl g2 4 (by exact rfl) _ (by exact rfl) sizeU8 64 64 _ hO3 (by decide) 1 rfl W0.heap.size W0 hb3 (Nat.le_refl _) hBg ?_
       intro w4 hO4 hb4
       obtain ⟨d0, d1, d2, d3, d4⟩ := HBOX.out.below hb4 hW
       clear hO3 hb3 e0 e1 e2 e3 e4)
    | (refine wpList_store_own rfl rfl _ _ _ rfl g2 5 (by exact rfl) _ (by exact rfl) sizeU8 64 64 _ hO4 (by decide) (UInt8.ofNat a.toNat) HAV.out W0.heap.size W0 hb4 (Nat.le_refl _) hBg ?_
       intro w5 hO5 hb5
       obtain ⟨e0, e1, e2, e3, e4⟩ := HBOX.out.below hb5 hW
       clear hO4 hb4 d0 d1 d2 d3 d4))
  go_still_tail 3, (by kernel_rfl)
  change wpList _ _ _ _ _ (World.drew _)
  go_wp2_with fail
  refine (put_any g2 64 64 6 8 _ W0.heap.size _ G W0 _ (show OwnE (World.drew _) g2 64 64 _ from hO5) (by omega) (by omega) hG0 hb5.drew hBg).mono ?_
  rintro r w6 ⟨rfl, hO6, hb6⟩
  rw [putL_eight, HGN.out] at hO6
  obtain ⟨d0, d1, d2, d3, d4⟩ := HBOX.out.below hb6 hW
  clear hO5 hb5 e0 e1 e2 e3 e4
  go_wp2_with fail
  go_still_tail 4, (by kernel_rfl)
  change wpList _ _ _ _ _ (World.drew _)
  go_wp2_with fail
  refine (put_any g2 64 64 14 4 _ W0.heap.size _ ev W0 _ (show OwnE (World.drew _) g2 64 64 _ from hO6) (by omega) (by omega) hev0 hb6.drew hBg).mono ?_
  rintro r w7 ⟨rfl, hO7, hb7⟩
  rw [putL_four, HEV.out] at hO7
  obtain ⟨e0, e1, e2, e3, e4⟩ := HBOX.out.below hb7 hW
  clear hO6 hb6 d0 d1 d2 d3 d4
  go_wp2_with fail
  go_still_tail 4, (by kernel_rfl)
  change wpList _ _ _ _ _ (World.drew _)
  go_wp2_with fail
  refine (put_any g2 64 64 18 4 _ W0.heap.size _ n W0 _ (show OwnE (World.drew _) g2 64 64 _ from hO7) (by omega) (by omega) hn0 hb7.drew hBg).mono ?_
  rintro r w8 ⟨rfl, hO8, hb8⟩
  rw [putL_four] at hO8
  obtain ⟨d0, d1, d2, d3, d4⟩ := HBOX.out.below hb8 hW
  clear hO7 hb7 e0 e1 e2 e3 e4
  go_wp2_with fail
  go_still_tail 4, (by kernel_rfl)
  change wpList _ _ _ _ _ (World.drew _)
  go_wp2_with fail
  refine (put_any g2 64 64 22 4 _ W0.heap.size _ sv W0 _ (show OwnE (World.drew _) g2 64 64 _ from hO8) (by omega) (by omega) hsv0 hb8.drew hBg).mono ?_
  rintro r w9 ⟨rfl, hO9, hb9⟩
  rw [putL_four, HSV.out] at hO9
  obtain ⟨e0, e1, e2, e3, e4⟩ := HBOX.out.below hb9 hW
  clear hO8 hb8 d0 d1 d2 d3 d4
  go_wp2_with fail
  have hO9' : OwnE w9 g2 64 64 (encM ⟨g, a, e, n, s⟩) := hO9
  clear hO9 e0 e1 e2 e3 e4
  have hH := hO9'.has.head8 60 (by omega)
  rw [HEL.out.1] at hH
  obtain ⟨x, hx⟩ : ∃ x, x = nv (crcSum (Sup.body ⟨g, a, e, n, s⟩)) := ⟨_, rfl⟩
  have hsum := fun w' cap (h : Has w' w9.heap.size (some ⟨g2, 0, none⟩) 60 ((Sup.body ⟨g, a, e, n, s⟩).map bv)) => sum_any (some ⟨g2, 0, none⟩) 60 cap _ _ w' h (by omega)
  rw [← hx] at hsum
  have hx0 : 0 ≤ x := by rw [hx]; exact nv_ge _
  have hx1 : x < 4294967296 := by rw [hx]; exact nv_lt _
  have HX : Hid (BitVec.ofNat 32 x.toNat = crcSum (Sup.body ⟨g, a, e, n, s⟩)) := by show _ = _; rw [hx]; unfold nv; simp
  clear hx
  go_still_tail 4, (by kernel_rfl)
  still_call ((hsum _ _ (show Has (World.drew _) _ _ _ _ from hH)).mono fun e w' h => ⟨h.1, h.2.symm⟩)
  repeat still_step
  try refine wpStill_nil ?_
  change wpList _ _ _ _ _ (World.drew _)
  go_wp2_with fail
  refine (put_any g2 64 64 60 4 _ W0.heap.size _ x W0 _ (show OwnE (World.drew _) g2 64 64 _ from hO9') (by omega) (by omega) hx0 hb9.drew hBg).mono ?_
  rintro r wA ⟨rfl, hOA, hbA⟩
  rw [putL_four, HX.out, HEL.out.2, ← HE.out] at hOA
  clear hO9' hb9 hsum hH
  go_wp2
  go_ret2
  exact ⟨⟨_, rfl, g2, 64, rfl, Nat.le_trans HB0.out.size hBg, hOA⟩, HB0.out.trans (hbA.mono HB0.out.size)⟩

end Go.Proofs.Ytdahnkampjkelaa
