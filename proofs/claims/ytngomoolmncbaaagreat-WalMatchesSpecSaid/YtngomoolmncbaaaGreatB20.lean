/-
Contracts of the reference's Valid, Size and check of an extent.
The contract of the reference's Read of an extent.
-/
import Derived.Test.YtngomoolmncbaaaGreatB16
import Derived.Test.YtngomoolmncbaaaGreatB19
namespace Go.Proofs.YtngomoolmncbaaaGreat
section
open Go.RowKit

set_option maxHeartbeats 1600000 in
theorem rvalidx_any {w : World} {F : Nat → Prop} {a n : Nat} {S : Dsk} (h : RD w F a n S) (f c : Int) (hc : c ≤ 9223372036854775807) :
    Calls Tryz.prog 55 #[.pointer (some ⟨a, 0, none⟩), .agg #[.int .i64 f, .int .i64 c]] w fun e w' => e = .returned (.bool (xvalid n f c)) ∧ Below w.heap.size w w' := by
  have hn4 := h.ok.n4
  have HP : Hid (∀ q, RD ((w.alloc (.cells #[.int .i64 f, .int .i64 c] 23)).drewN q) F a n S) := fun q => h.below (box_below _ q)
  clear h
  by_cases h0 : 0 ≤ f
  · have b0 : decide ((0 : Int) ≤ f) = true := by simpa using h0
    by_cases h1 : 1 ≤ c
    · have b1 : decide ((1 : Int) ≤ c) = true := by simpa using h1
      by_cases h2 : c ≤ (n : Int)
      · have b2 : decide (c ≤ (n : Int)) = true := by simpa using h2
        obtain ⟨r, hr⟩ : ∃ r, r = decide (f ≤ (n : Int) - c) := ⟨_, rfl⟩
        have hv : Hid (xvalid n f c = r) := by show _ = _; rw [hr]; simp only [xvalid, b0, b1, Bool.true_and]; congr 1; apply propext; constructor <;> intro h <;> omega
        have hr' := hr.symm
        clear hr
        go_enter Tryz.func55, Tryz.ntmps55
        go_wp2
        go_quiet ((go_at_call 64; exact quiet_same (rsectors_any (HP.out _))))
        go_wp2
        go_ret
        exact ⟨ret_bool hv.out.symm, box_below _ _⟩
      · have b2 : decide (c ≤ (n : Int)) = false := by simpa using h2
        have hv : Hid (xvalid n f c = false) := by show _ = _; simp [xvalid]; omega
        go_enter Tryz.func55, Tryz.ntmps55
        go_wp2
        go_quiet ((go_at_call 64; exact quiet_same (rsectors_any (HP.out _))))
        go_wp2
        go_ret
        exact ⟨ret_bool hv.out.symm, box_below _ _⟩
    · have b1 : decide ((1 : Int) ≤ c) = false := by simpa using h1
      have hv : Hid (xvalid n f c = false) := by show _ = _; simp [xvalid, h1]
      clear h0 h1
      go_enter Tryz.func55, Tryz.ntmps55
      go_wp2
      go_quiet (fail)
      go_wp2
      go_ret
      exact ⟨ret_bool hv.out.symm, box_below _ _⟩
  · have b0 : decide ((0 : Int) ≤ f) = false := by simpa using h0
    have hv : Hid (xvalid n f c = false) := by show _ = _; simp [xvalid, h0]
    clear h0
    go_enter Tryz.func55, Tryz.ntmps55
    go_wp2
    go_quiet (fail)
    go_wp2
    go_ret
    exact ⟨ret_bool hv.out.symm, box_below _ _⟩

set_option maxHeartbeats 1600000 in
theorem rsizex_any (w : World) (f c : Int) : Calls Tryz.prog 41 #[.agg #[.int .i64 f, .int .i64 c]] w fun e w' => e = .returned (.int .i64 (xsize c)) ∧ Below w.heap.size w w' := by
  by_cases h0 : c < 0
  · have b0 : decide (c < 0) = true := by simpa using h0
    have hv : Hid (xsize c = 0) := by show _ = _; simp [xsize, h0]
    clear h0
    go_enter Tryz.func41, Tryz.ntmps41
    go_wp2
    go_ret
    exact ⟨ret_int hv.out.symm, (Below.refl _ _).alloc (Nat.le_refl _) _⟩
  · have b0 : decide (c < 0) = false := by simpa using h0
    by_cases h1 : 4096 < c
    · have b1 : decide ((4096 : Int) < c) = true := by simpa using h1
      have hv : Hid (xsize c = 0) := by show _ = _; simp [xsize, h1]
      clear h0 h1
      go_enter Tryz.func41, Tryz.ntmps41
      go_wp2
      go_ret
      exact ⟨ret_int hv.out.symm, (Below.refl _ _).alloc (Nat.le_refl _) _⟩
    · have b1 : decide ((4096 : Int) < c) = false := by simpa using h1
      have hw : wrap64 (c * 64) = c * 64 := by unfold wrap64; omega
      have hv : Hid (xsize c = c * 64) := by show _ = _; simp [xsize, h1, h0]
      have hw' := Lib.hid hw
      clear h0 h1
      go_enter Tryz.func41, Tryz.ntmps41
      go_wp2
      go_ret
      exact ⟨ret_int (by rw [hv.out]; first | exact hw'.out | rfl), (Below.refl _ _).alloc (Nat.le_refl _) _⟩

set_option maxHeartbeats 1600000 in
theorem rcheck_any {w : World} {F : Nat → Prop} {a n : Nat} {S : Dsk} (h : RD w F a n S) (f c off m : Int) (hcc : c ≤ 9223372036854775807) (hoff : off ≤ 9223372036854775807) (_ : m ≤ 9223372036854775807) :
    Calls Tryz.prog 75 #[.pointer (some ⟨a, 0, none⟩), .agg #[.int .i64 f, .int .i64 c], .int .i64 off, .int .i64 m] w fun e w' => e = .returned (.int .i64 (xerr n f c off m)) ∧ Below w.heap.size w w' := by
  have hb0 : Below w.heap.size w (w.alloc (.cells #[.int .i64 f, .int .i64 c] 23)) := (Below.refl _ _).alloc (Nat.le_refl _) _
  have hv := rvalidx_any (h.below hb0) f c hcc
  have hl := heap_alloc_last w (.cells #[.int .i64 f, .int .i64 c] 23)
  have hn4 := h.ok.n4
  have HB0 := Lib.hid hb0
  have HL := Lib.hid hl
  clear h hb0 hl
  cases hx : xvalid n f c with
  | false =>
    have he := Lib.hid (xerr_bad (off := off) (m := m) hx)
    rw [hx] at hv
    clear hx
    go_enter Tryz.func75, Tryz.ntmps75
    go_wp2_with (go_at_call 55; refine hv.mono ?_; rintro e w' ⟨rfl, hb⟩)
    go_ret
    exact ⟨ret_int he.out.symm, HB0.out.trans (hb.mono HB0.out.size)⟩
  | true =>
    rw [hx] at hv
    have hc : Hid (0 ≤ f ∧ 1 ≤ c ∧ f + c ≤ n) := by show _ ∧ _; simp [xvalid] at hx; omega
    by_cases h0 : off < 0
    · have b0 : decide (off < 0) = true := by simpa using h0
      have he : Hid (xerr n f c off m = 2) := by show _ = _; simp [xerr, hx, h0]
      clear hx h0
      go_enter Tryz.func75, Tryz.ntmps75
      go_wp2_with (go_at_call 55; refine hv.mono ?_; rintro e w' ⟨rfl, hb⟩)
      go_ret
      exact ⟨ret_int he.out.symm, HB0.out.trans (hb.mono HB0.out.size)⟩
    · have b0 : decide (off < 0) = false := by simpa using h0
      by_cases h1 : m < 0
      · have b1 : decide (m < 0) = true := by simpa using h1
        have he : Hid (xerr n f c off m = 2) := by show _ = _; simp [xerr, hx, h1]
        clear hx h0 h1
        go_enter Tryz.func75, Tryz.ntmps75
        go_wp2_with (go_at_call 55; refine hv.mono ?_; rintro e w' ⟨rfl, hb⟩)
        go_ret
        exact ⟨ret_int he.out.symm, HB0.out.trans (hb.mono HB0.out.size)⟩
      · have b1 : decide (m < 0) = false := by simpa using h1
        obtain ⟨Z, hZ⟩ : ∃ Z : Int, Z = c * 64 := ⟨_, rfl⟩
        have hsz : Hid (xsize c = Z) := by show _ = _; have := hc.out; simp [xsize]; omega
        have hZb : Z ≤ 262144 := by have := hc.out; omega
        have hZ0 : 0 ≤ Z := by have := hc.out; omega
        obtain ⟨r, hr⟩ : ∃ r, decide (Z < m) = r := ⟨_, rfl⟩
        obtain ⟨r2, hr2⟩ : ∃ r, decide (Z - m < off) = r := ⟨_, rfl⟩
        have he : Hid (xerr n f c off m = if r || r2 then 2 else 0) := by
          show _ = _
          rw [← hr, ← hr2]
          simp only [xerr, hx, Bool.true_eq_false, if_false]
          rw [← hZ]
          by_cases g : Z - off < m
          · rw [if_pos (by omega), if_pos (by simp; omega)]
          · rw [if_neg (by omega), if_neg (by simp; omega)]
        have hm0 : 0 ≤ m := by omega
        clear hx hZ
        cases r
        · have hmZ : m ≤ Z := by simpa using hr
          cases r2
          · go_enter Tryz.func75, Tryz.ntmps75
            go_wp2_with fail
            refine hv.mono ?_
            rintro e w1 ⟨rfl, hb⟩
            have k0 : w1.cell? ⟨w.heap.size, 0, none⟩ = some (.int .i64 f) := (hb.cell (p := ⟨w.heap.size, 0, none⟩) (by simp)).trans (cell_of_row _ _ 0 _ _ _ HL.out)
            have k1 : w1.cell? ⟨w.heap.size, 1, none⟩ = some (.int .i64 c) := (hb.cell (p := ⟨w.heap.size, 1, none⟩) (by simp)).trans (cell_of_row _ _ 1 _ _ _ HL.out)
            have HB1 := Lib.hid (HB0.out.trans (hb.mono HB0.out.size))
            clear hb
            go_wp2_with fail
            refine (rsizex_any w1 f c).mono ?_
            rintro e w2 ⟨rfl, hb2⟩
            rw [hsz.out]
            have HB2 := Lib.hid (HB1.out.trans (hb2.mono HB1.out.size))
            have j0 := (hb2.cell (p := ⟨w.heap.size, 0, none⟩) (cell_lt k0)).trans k0
            have j1 := (hb2.cell (p := ⟨w.heap.size, 1, none⟩) (cell_lt k1)).trans k1
            clear hb2 k0 k1
            go_wp2_with fail
            refine (rsizex_any w2 f c).mono ?_
            rintro e w3 ⟨rfl, hb3⟩
            rw [hsz.out]
            have HB3 := Lib.hid (HB2.out.trans (hb3.mono HB2.out.size))
            go_wp2_with fail
            go_ret
            exact ⟨ret_int (by rw [he.out]; rfl), HB3.out⟩
          · go_enter Tryz.func75, Tryz.ntmps75
            go_wp2_with fail
            refine hv.mono ?_
            rintro e w1 ⟨rfl, hb⟩
            have k0 : w1.cell? ⟨w.heap.size, 0, none⟩ = some (.int .i64 f) := (hb.cell (p := ⟨w.heap.size, 0, none⟩) (by simp)).trans (cell_of_row _ _ 0 _ _ _ HL.out)
            have k1 : w1.cell? ⟨w.heap.size, 1, none⟩ = some (.int .i64 c) := (hb.cell (p := ⟨w.heap.size, 1, none⟩) (by simp)).trans (cell_of_row _ _ 1 _ _ _ HL.out)
            have HB1 := Lib.hid (HB0.out.trans (hb.mono HB0.out.size))
            clear hb
            go_wp2_with fail
            refine (rsizex_any w1 f c).mono ?_
            rintro e w2 ⟨rfl, hb2⟩
            rw [hsz.out]
            have HB2 := Lib.hid (HB1.out.trans (hb2.mono HB1.out.size))
            have j0 := (hb2.cell (p := ⟨w.heap.size, 0, none⟩) (cell_lt k0)).trans k0
            have j1 := (hb2.cell (p := ⟨w.heap.size, 1, none⟩) (cell_lt k1)).trans k1
            clear hb2 k0 k1
            go_wp2_with fail
            refine (rsizex_any w2 f c).mono ?_
            rintro e w3 ⟨rfl, hb3⟩
            rw [hsz.out]
            have HB3 := Lib.hid (HB2.out.trans (hb3.mono HB2.out.size))
            go_wp2_with fail
            go_ret
            exact ⟨ret_int (by rw [he.out]; rfl), HB3.out⟩
        · go_enter Tryz.func75, Tryz.ntmps75
          go_wp2_with fail
          refine hv.mono ?_
          rintro e w1 ⟨rfl, hb⟩
          have k0 : w1.cell? ⟨w.heap.size, 0, none⟩ = some (.int .i64 f) := (hb.cell (p := ⟨w.heap.size, 0, none⟩) (by simp)).trans (cell_of_row _ _ 0 _ _ _ HL.out)
          have k1 : w1.cell? ⟨w.heap.size, 1, none⟩ = some (.int .i64 c) := (hb.cell (p := ⟨w.heap.size, 1, none⟩) (by simp)).trans (cell_of_row _ _ 1 _ _ _ HL.out)
          have HB1 := Lib.hid (HB0.out.trans (hb.mono HB0.out.size))
          clear hb
          go_wp2_with fail
          refine (rsizex_any w1 f c).mono ?_
          rintro e w2 ⟨rfl, hb2⟩
          rw [hsz.out]
          have HB2 := Lib.hid (HB1.out.trans (hb2.mono HB1.out.size))
          go_wp2_with fail
          go_ret
          exact ⟨ret_int (by rw [he.out]; rfl), HB2.out⟩
end

section
open Go.RowKit

set_option maxRecDepth 20000 in
set_option maxHeartbeats 3200000 in
theorem rxread_any {w : World} {F : Nat → Prop} {a n : Nat} {S : Dsk} (h : RD w F a n S) (f c off m : Int) (hcc : c ≤ 9223372036854775807) (hoff : off ≤ 9223372036854775807) (hm : m ≤ 9223372036854775807) :
    Calls Tryz.prog 56 #[.pointer (some ⟨a, 0, none⟩), .agg #[.int .i64 f, .int .i64 c], .int .i64 off, .int .i64 m] w fun e w' =>
      ∃ v, e = .returned (.tuple #[v, .int .i64 (S.xread n f c off m).2.1]) ∧ RdW w w' v (S.xread n f c off m).2.2 ∧ RD w' F a n (S.xread n f c off m).1 ∧ Frm F w w' := by
  have hb0 : Below w.heap.size w (w.alloc (.cells #[.int .i64 f, .int .i64 c] 23)) := (Below.refl _ _).alloc (Nat.le_refl _) _
  have hv := rcheck_any (h.below hb0) f c off m hcc hoff hm
  have hl := heap_alloc_last w (.cells #[.int .i64 f, .int .i64 c] 23)
  have hzF : Hid (¬ F w.heap.size) := fun hb => Nat.lt_irrefl _ (h.lt _ hb)
  have H0 := Lib.hid (h.below hb0)
  have HB0 := Lib.hid hb0
  have HL := Lib.hid hl
  have HFl : Hid (∀ b, F b → b < w.heap.size) := h.lt
  have hn4 := Lib.hid h.ok.n4
  clear h hb0 hl
  by_cases hx : xerr n f c off m = 0
  · rw [hx] at hv
    obtain ⟨f, c, off, m, rfl, rfl, rfl, rfl, hc1, hfc, hom⟩ := xerr_fine hx
    rw [xread_fine hx]
    have HC : Hid (1 ≤ c ∧ f + c ≤ n ∧ off + m ≤ 64 * c) := ⟨hc1, hfc, hom⟩
    have hfb : (f : Int) ≤ 4096 := by have := hn4.out; omega
    obtain ⟨R, hR⟩ : ∃ R, rdc f (ck off m) S [] = R := ⟨_, rfl⟩
    rw [hR]
    have HR := Lib.hid hR
    clear hc1 hfc hom hcc hoff hm hx hR
    obtain ⟨i5, hi5, hz0, hz1, hz2⟩ := info_parts infoU8
    go_enter Tryz.func56, Tryz.ntmps56
    go_wp2_with fail
    refine hv.mono ?_
    rintro e w1 ⟨rfl, hb1⟩
    have H1 := Lib.hid (H0.out.below hb1)
    have HB1 := Lib.hid (HB0.out.trans (hb1.mono HB0.out.size))
    have z0 : w1.cell? ⟨w.heap.size, 0, none⟩ = some (.int .i64 f) := (hb1.cell (p := ⟨w.heap.size, 0, none⟩) (by simp)).trans (cell_of_row _ _ 0 _ _ _ HL.out)
    have hz8 : Hid (w.heap.size < w1.heap.size) := cell_lt z0
    clear hb1 hv
    go_wp2_with fail
    go_loopw [2, 3, 11] (fun ov nv dv wr => ∃ (o r : Nat) (acc : List UInt8) (T : Dsk), ov = .int .i64 o ∧ nv = .int .i64 r ∧ wr.ownsRow w1.heap.size 5 1 dv acc.length (acc.map bv) ∧ wr.cell? ⟨w.heap.size, 0, none⟩ = some (.int .i64 f) ∧
        Hid (acc.length + r ≤ 262144 ∧ o + r ≤ 64 * c ∧ rdc f (ck o r) T acc = R ∧ RD wr F a n T ∧ Frm F w wr ∧ w1.heap.size ≤ wr.heap.size)) (fun _ nv _ _ => (RowKit.intOf nv).toNat)
    case atStart => exact ⟨off, m, [], S, rfl, rfl, World.ownsRow_nil _ _ _ _, z0, by have := HC.out; have := hn4.out; simp; omega, HC.out.2.2, HR.out, H1.out, Frm.of_below HB1.out, Nat.le_refl _⟩
    case round =>
      obtain ⟨o, r, acc, T, rfl, rfl, hown, z3, HI⟩ := hrel
      have HOWN := Lib.hid hown
      have hob : (o : Int) ≤ 262144 := by have := HI.out.2.1; have := HC.out; have := hn4.out; omega
      have hrb : (r : Int) ≤ 262144 := by have := HI.out.1; omega
      by_cases hr0 : 0 < r
      · have hd : decide ((0 : Int) < (r : Int)) = true := by simpa using hr0
        have hri : (0 : Int) < (r : Int) := by omega
        have hst := Lib.hid (ck_pos (off := o) hr0)
        have hk1 := cklen_pos (off := o) hr0
        have hk2 := cklen_le o r
        have hk3 := cklen_64 o r
        have hfq : f + o / 64 < n := by have := HI.out.2.1; have := HC.out; omega
        obtain ⟨k, hk⟩ : ∃ k, k = cklen o r := ⟨_, rfl⟩
        obtain ⟨q, hq⟩ : ∃ q, q = o / 64 := ⟨_, rfl⟩
        obtain ⟨p, hp⟩ : ∃ p, p = o % 64 := ⟨_, rfl⟩
        have hkmin : k = min r (64 - p) := by rw [hk, hp]; rfl
        rw [← hk, ← hq, ← hp] at hst
        rw [← hk] at hk1 hk2 hk3
        rw [← hp] at hk3
        rw [← hq] at hfq
        have t0 : Int.tdiv (o : Int) 64 = (q : Int) := tdiv64 hq.symm
        have t1 : Int.tmod (o : Int) 64 = (p : Int) := by rw [Int.tmod_eq_emod_of_nonneg (by omega)]; omega
        have hmin := fun (W : World) (ts : Array TypeId) (t : TypeId) => min_two (P := Tryz.prog) W ts t (r : Int) (64 - (p : Int)) (k : Int) (by omega)
        obtain ⟨t, ht⟩ : ∃ t, t = p + k := ⟨_, rfl⟩
        have htr : (p : Int) + (k : Int) = (t : Int) := by omega
        have hpt : (p : Int) ≤ (t : Int) := by omega
        have ht64 : (t : Int) ≤ 64 := by omega
        have hqb : (q : Int) ≤ 4096 := by omega
        have hpb : (p : Int) ≤ 64 := by omega
        have hkb : (k : Int) ≤ 64 := by omega
        have hkr : (k : Int) ≤ (r : Int) := by omega
        have htk : t - p = k := by omega
        have hrd := rread_any HI.out.2.2.2.1 (f + q : Nat)
        have hin : inR n ((f + q : Nat) : Int) = true := by simp [inR]; omega
        rw [hin] at hrd
        rw [show (((f + q : Nat) : Int)) = (f : Int) + (q : Int) by omega] at hrd
        rw [show ((f : Int) + (q : Int)).toNat = f + q by omega] at hrd
        have HQ := Lib.hid (And.intro hk1 (And.intro hk2 (And.intro hk3 ht)))
        clear hk hq hp hkmin ht hin
        go_wp2_with fail
        refine hrd.mono ?_
        rintro e w3 ⟨v3, zz, rfl, hzz, hp3, hf3, _, hgood⟩
        have z4 := (hf3.cell (p := ⟨w.heap.size, 0, none⟩) (cell_lt z3) hzF.out).trans z3
        by_cases ha : T.ans true = 0
        · obtain rfl : zz = 0 := hzz.trans ha
          obtain ⟨g, cg, rfl, hg, hog⟩ := hgood rfl
          have hcg : 64 ≤ cg := own8_le hog
          have hcu : ¬ cg = p := by have := HQ.out; omega
          have htc : (t : Int) ≤ (cg : Int) := by omega
          have hsrc : Has w3 w3.heap.size (some ⟨g, p, none⟩) (t - p) ((((T.sec (f + q)).drop p).take (t - p)).map bv) := by
            have := hog.has.part p (t - p) (by omega)
            rw [Nat.zero_add] at this
            rw [List.map_take, List.map_drop]
            exact this
          have hown3 := own_frm HOWN.out hf3 (fun b hb => by have := HFl.out b hb; have := hz8.out; omega)
          have hB3 : w1.heap.size ≤ w3.heap.size := by have := HI.out.2.2.2.2.2; have := hf3.size; omega
          have h63 : Hid (acc.length + (t - p) ≤ maxLen) := by show _ ≤ _; have := HI.out.1; unfold maxLen; omega
          have hby : Hid ((acc.length + (t - p)) * 1 ≤ 140737488355328) := by show _ ≤ _; have := HI.out.1; omega
          have H3 := Lib.hid (And.intro hp3 hf3)
          rw [htk] at hsrc h63 hby
          clear hp3 hf3 hog hgood hzz hrd z3 hk1 hk2 hk3 hown
          go_wp2_with (at_builtin; refine wpList_app_has _ rfl _ _ 37 (by exact rfl) w1.heap.size 5 i5 (.int .u8 0) 1 tyBs hi5 hz0 hz1 hz2 rfl _ acc.length _ (by exact rfl) hown3 (some ⟨g, p, none⟩) k _ _ _ (by exact rfl) (fun e => by cases e) hsrc (one_bytes _) h63.out hby.out (Below.refl w1.heap.size w3) hB3 ?_; intro v' w4 hown4 hb4 hg4)
          go_roundw
          case rel =>
            have hlen : (((T.sec (f + q)).drop p).take k).length = k := by have := hsrc.1; simpa using this
            refine ⟨o + k, r - k, acc ++ ((T.sec (f + q)).drop p).take k, T.done true, by go_num, by go_num, ?_, (hb4.cell (p := ⟨w.heap.size, 0, none⟩) hz8.out).trans z4, ?_, ?_, ?_, H3.out.1.keep (frm_above hb4) fun b hb hF => by have := HFl.out b hF; have := hz8.out; omega, ?_, by have := hb4.size; omega⟩
            · rw [List.map_append, List.length_append, hlen]; exact hown4
            · rw [List.length_append, hlen]; have := HI.out.1; have := HQ.out; omega
            · have := HI.out.2.1; have := HQ.out; omega
            · rw [← HI.out.2.2.1, hst.out, rdc_ok ha]
            · exact (HI.out.2.2.2.2.1.trans' H3.out.2).trans (frm_above hb4) fun b hb => .inr (by have := hz8.out; omega)
          case measure => have := HQ.out; simp [RowKit.intOf]; omega
        · have hRe : R = (T.done true, T.ans true, []) := by rw [← HI.out.2.2.1, hst.out, rdc_err ha]
          have hzn : (zz == 0) = false := by rw [hzz]; simpa using ha
          have H3 := Lib.hid (And.intro hp3 (And.intro hf3 (And.intro hRe hzz)))
          clear hp3 hf3 hgood hzz hrd z3 hk1 hk2 hk3 hown ha hRe
          go_wp2_with fail
          go_ret2
          obtain ⟨hp3, hf3, hRe, hzz⟩ := H3.out
          subst hRe hzz
          exact ⟨_, rfl, rdw_none _ _, hp3, HI.out.2.2.2.2.1.trans' hf3⟩
      · have hd : decide ((0 : Int) < (r : Int)) = false := by simpa using hr0
        have hRe : R = (T, 0, acc) := by rw [← HI.out.2.2.1, show r = 0 by omega, ck_zero]; rfl
        have HRe := Lib.hid hRe
        clear hRe hown
        go_wp2_with fail
        go_ret2
        have hRe := HRe.out
        subst hRe
        exact ⟨_, rfl, rdw_own HOWN.out (by have := hz8.out; omega), HI.out.2.2.2.1, HI.out.2.2.2.2.1⟩
  · rw [xread_err hx]
    obtain ⟨er, her⟩ : ∃ er, er = xerr n f c off m := ⟨_, rfl⟩
    rw [← her] at hv hx ⊢
    have hne : (er == 0) = false := by simpa using hx
    clear hx her
    go_enter Tryz.func56, Tryz.ntmps56
    go_wp2_with (go_at_call 75; refine hv.mono ?_; rintro e w1 ⟨rfl, hb1⟩)
    go_ret2
    have hb := HB0.out.trans (hb1.mono HB0.out.size)
    exact ⟨_, rfl, rdw_none _ _, H0.out.below hb1, Frm.of_below hb⟩
end

end Go.Proofs.YtngomoolmncbaaaGreat
