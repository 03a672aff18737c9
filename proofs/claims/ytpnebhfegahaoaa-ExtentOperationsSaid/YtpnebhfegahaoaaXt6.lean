/-
  The walk of ExtentOperations.
-/
import Derived.Test.YtpnebhfegahaoaaXt5
import Derived.Test.YtpnebhfegahaoaaXtQ
namespace Go.Proofs.Ytpnebhfegahaoaa
open Go.RowKit

theorem armOk_one {K : Int} (h : 0 ≤ K) : armOk [(K, 1)] = true := by simp [armOk, badFs, badF]; omega
theorem secop_le {off m s q0 q1 : Nat} (h0 : q0 = max off (64 * s)) (h1 : q1 = min (off + m) (64 * (s + 1))) : secop off m s = if q0 < q1 then nop (q1 - q0) else 0 := by subst h0 h1; rfl
/-- An error is armed at K on a disk of which no block is older than w. -/
structure OpD (w x : World) (F : Nat → Prop) (a n : Nat) (S : Dsk) (K : Int) : Prop where
  p : PD x F a n S
  at1 : At1 S K
  lo : ∀ b, F b → w.heap.size ≤ b
  bel : Below w.heap.size w x
theorem OpD.below {w x y : World} {F : Nat → Prop} {a n : Nat} {S : Dsk} {K : Int} (h : OpD w x F a n S K) (hb : Below x.heap.size x y) : OpD w y F a n S K := ⟨h.p.below hb, h.at1, h.lo, h.bel.trans (hb.mono h.bel.size)⟩
theorem opd_arm {w x y : World} {F : Nat → Prop} {a n : Nat} {S : Dsk} {K : Int} (hp : PD y (fun b => F b ∨ newF x y b) a n (S.armed [(K, 1)])) (hoff : S.off = false) (lo : ∀ b, F b → w.heap.size ≤ b) (hb : Below w.heap.size w x) (hf : Frm F x y) :
    OpD w y (fun b => F b ∨ newF x y b) a n (S.armed [(K, 1)]) K :=
  ⟨hp, ⟨rfl, hoff⟩, fun b h => h.elim (lo b) fun h => by have := h.1; have := hb.size; omega, hb.trans (hf.below lo hb.size)⟩
/-- A write on such a disk. -/
theorem opd_write {w x : World} {F : Nat → Prop} {a n : Nat} {S : Dsk} {K : Int} (h : OpD w x F a n S K) (hc : S.cnt = 0) (off m g : Nat) (hn : 1 ≤ n) (hom : off + m ≤ 64 * n) (hn40 : n ≤ 40) (hA : HasF F x (some ⟨g, 0, none⟩) m ((List.replicate m (0 : UInt8)).map bv)) :
    Calls Try.prog 15 #[.pointer (some ⟨a, 0, none⟩), .agg #[.int .i64 0, .int .i64 n], .int .i64 off, .slice (some ⟨g, 0, none⟩) m m] x fun e y => ∃ (z : Int) (S' : Dsk) (G : Nat → Prop), e = .returned (.int .i64 z) ∧ OpD w y G a n S' K ∧ (∀ b, G b → F b ∨ x.heap.size ≤ b) ∧ Frm F x y ∧
      (K < 0 ∨ (nops (ck off m) : Int) ≤ K → z = 0 ∧ S'.cnt = nops (ck off m)) ∧ (0 ≤ K → K < nops (ck off m) → z = 9 ∧ S'.cnt = K + 1) := by
  have hx : xerr n ((0 : Nat) : Int) (n : Nat) (off : Nat) ((List.replicate m (0 : UInt8)).length : Nat) = 0 := by
    simp only [List.length_replicate]
    unfold xerr
    rw [if_neg (by simp [xvalid]; omega), if_neg (by omega)]
  have hw := xwrite_fine (S := S) hx
  rw [List.length_replicate] at hw
  obtain ⟨q1, q2⟩ := wrc_count 0 (K := K) (ck off m) (chs_le64 m off m) S (List.replicate m 0) h.at1 (by rw [lens_ck]; simp) (by omega) (by have := nops_chs m off m; unfold ck; omega)
  rw [hc] at q1 q2
  refine (xwrite_any h.p 0 n off _ m m (List.replicate m 0) (by omega) (by omega) (by omega) (Nat.le_refl _) hA).mono ?_
  rintro e y ⟨rfl, hp, hf⟩
  have hw' : S.xwrite n 0 n off (List.replicate m 0) = wrc 0 (ck off m) S (List.replicate m 0) := hw
  rw [hw'] at hp ⊢
  have hat : At1 (wrc 0 (ck off m) S (List.replicate m 0)).1 K := by
    by_cases hk : 0 ≤ K ∧ K < 0 + (nops (ck off m) : Int)
    · exact (q2 hk.1 hk.2).2.1
    · exact (q1 (by omega)).2.1
  refine ⟨_, _, _, rfl, ⟨hp, hat, fun b hb => hb.elim (h.lo b) fun hb => by have := hb.1; have := h.bel.size; omega, h.bel.trans (hf.below h.lo h.bel.size)⟩, fun b hb => hb.elim .inl fun h => .inr h.1, hf, fun hk => ?_, fun h0 h1 => ?_⟩
  · obtain ⟨a, _, c⟩ := q1 (by omega); exact ⟨a, by omega⟩
  · obtain ⟨a, _, c⟩ := q2 h0 (by omega); exact ⟨a, c⟩
theorem opd_sync {w x : World} {F : Nat → Prop} {a n : Nat} {S : Dsk} {K : Int} (h : OpD w x F a n S K) (h0 : 0 ≤ S.cnt) (h1 : S.cnt ≤ 900000) :
    Calls Try.prog 17 #[.pointer (some ⟨a, 0, none⟩)] x fun e y => ∃ (z : Int) (S' : Dsk), e = .returned (.int .i64 z) ∧ PD y F a n S' ∧ S'.off = false ∧ Frm F x y ∧ (K = S.cnt → z = 9) ∧ (K ≠ S.cnt → z = 0) := by
  refine (sync_any h.p).mono ?_
  rintro e y ⟨rfl, hp, hf⟩
  by_cases hK : K = S.cnt
  · obtain ⟨e1, e2, _⟩ := h.at1.hit hK
    have : S.synced = S.tick := by simp [Dsk.synced, e1, e2]
    rw [this] at hp
    exact ⟨_, _, rfl, hp, h.at1.2, hf, fun _ => e1, fun h => absurd hK h⟩
  · obtain ⟨e1, e2, _⟩ := h.at1.miss hK
    have : S.synced = S.tick.flush := by simp [Dsk.synced, e1, e2]
    rw [this] at hp
    exact ⟨_, _, rfl, hp, h.at1.2, hf, fun h => absurd h hK, fun _ => e1⟩

/-- The extent and the data stand outside the disk's blocks. -/
structure Side (x : World) (F : Nat → Prop) (z g n m : Nat) : Prop where
  c0 : x.cell? ⟨z, 0, none⟩ = some (.int .i64 0)
  c1 : x.cell? ⟨z, 1, none⟩ = some (.int .i64 n)
  row : Row x g 5 (zeros m)
  zF : ¬ F z
  gF : ¬ F g
theorem Side.step {x y : World} {F G : Nat → Prop} {z g n m : Nat} (h : Side x F z g n m) (hf : Frm F x y) (hG : ∀ b, G b → F b ∨ x.heap.size ≤ b) : Side y G z g n m := by
  have hz := cell_lt h.c0
  have hg := h.row.lt
  exact ⟨(hf.cell (p := ⟨z, 0, none⟩) hz h.zF).trans h.c0, (hf.cell (p := ⟨z, 1, none⟩) hz h.zF).trans h.c1, (hf.block g hg h.gF).trans h.row, fun hb => (hG z hb).elim h.zF fun h => by omega, fun hb => (hG g hb).elim h.gF fun h => by omega⟩
theorem Side.wide {x y : World} {F : Nat → Prop} {z g n m : Nat} (h : Side x F z g n m) (hf : Frm F x y) : Side y (fun b => F b ∨ newF x y b) z g n m := h.step hf fun b hb => hb.elim .inl fun h => .inr h.1
theorem Side.same {x y : World} {F : Nat → Prop} {z g n m : Nat} (h : Side x F z g n m) (hf : Frm F x y) : Side y F z g n m := h.step hf fun b hb => .inl hb
theorem Side.has {x : World} {F : Nat → Prop} {z g n m : Nat} (h : Side x F z g n m) : HasF F x (some ⟨g, 0, none⟩) m ((List.replicate m (0 : UInt8)).map bv) :=
  hasF_at (Own8.zeros h.row).has (Nat.le_refl _) h.gF

set_option maxRecDepth 20000 in
set_option maxHeartbeats 6400000 in
theorem ops_good (n off m : Nat) (w : World) (h1 : 1 ≤ n) (h40 : n ≤ 40) (hom : off + m ≤ 64 * n) :
    Calls Try.prog 5 #[.int .i64 n, .int .i64 off, .int .i64 m] w (Yes w) := by
  have hni : (n : Int) ≤ 40 := by omega
  have hn1 : (1 : Int) ≤ (n : Int) := by omega
  have g1 : decide ((n : Int) < 1) = false := by simp; omega
  have g2 : decide ((40 : Int) < (n : Int)) = false := by simp; omega
  have g3 : decide ((off : Int) < 0) = false := by simp
  have g4 : decide ((m : Int) < 0) = false := by simp
  have g5 : decide ((n : Int) * 64 < (off : Int)) = false := by simp; omega
  have g6 : decide ((n : Int) * 64 - (off : Int) < (m : Int)) = false := by simp; omega
  have hob : (off : Int) ≤ 2560 := by omega
  have hmb : (m : Int) ≤ 2560 := by omega
  have HN := Lib.hid (And.intro h1 (And.intro h40 hom))
  clear h1 h40 hom
  go_enter Try.func5, Try.ntmps5
  go_wp2
  go_loop [7, 8] (fun ov sv => ∃ s oc : Nat, s ≤ n ∧ sv = .int .i64 s ∧ ov = .int .i64 oc ∧ Hid (oc = opc off m s)) (fun _ sv => n - (RowKit.intOf sv).toNat)
  case atStart => exact ⟨0, 0, Nat.zero_le _, rfl, rfl, rfl⟩
  case round =>
    obtain ⟨s, oc, hs, rfl, rfl, HOC⟩ := hrel
    have hsb : (s : Int) ≤ 40 := by omega
    have hocb : (oc : Int) ≤ 80 := by have := HOC.out; have := opc_le off m s; omega
    by_cases hlt : s < n
    · have hd : decide ((s : Int) < (n : Int)) = true := by simpa using hlt
      obtain ⟨q0, hq0⟩ : ∃ q, q = max off (64 * s) := ⟨_, rfl⟩
      obtain ⟨q1, hq1⟩ : ∃ q, q = min (off + m) (64 * (s + 1)) := ⟨_, rfl⟩
      have hstep : Hid (opc off m (s + 1) = oc + if q0 < q1 then nop (q1 - q0) else 0) := by
        show _ = _
        rw [HOC.out, ← secop_le hq0 hq1]
        rfl
      have hmax := fun (W : World) (ts : Array TypeId) (t : TypeId) => max_two (P := Try.prog) W ts t (off : Int) ((s : Int) * 64) (q0 : Int) (by omega)
      have hmin := fun (W : World) (ts : Array TypeId) (t : TypeId) => min_two (P := Try.prog) W ts t ((off : Int) + (m : Int)) (((s : Int) + 1) * 64) (q1 : Int) (by omega)
      have hqb : (q0 : Int) ≤ 5120 ∧ (q1 : Int) ≤ 5120 := by omega
      obtain ⟨hqb0, hqb1⟩ := hqb
      clear hq0 hq1
      by_cases hqq : q0 < q1
      · have e1 : decide ((q0 : Int) < (q1 : Int)) = true := by simpa using hqq
        obtain ⟨k, hk⟩ : ∃ k, k = q1 - q0 := ⟨_, rfl⟩
        have w6 : (q1 : Int) - (q0 : Int) = (k : Int) := by omega
        rw [if_pos hqq, ← hk] at hstep
        clear hk
        by_cases hk64 : k < 64
        · have e2 : decide ((k : Int) < 64) = true := by simp; omega
          have hfin : Hid (opc off m (s + 1) = oc + 1 + 1) := by show _ = _; rw [hstep.out]; unfold nop; rw [if_pos hk64]
          go_wp2
          go_round
          case rel => exact ⟨s + 1, oc + 1 + 1, by omega, by go_num, by go_num, hfin.out.symm⟩
          case measure => simp [RowKit.intOf]; omega
        · have e2 : decide ((k : Int) < 64) = false := by simp; omega
          have hfin : Hid (opc off m (s + 1) = oc + 1) := by show _ = _; rw [hstep.out]; unfold nop; rw [if_neg hk64]
          go_wp2
          go_round
          case rel => exact ⟨s + 1, oc + 1, by omega, by go_num, by go_num, hfin.out.symm⟩
          case measure => simp [RowKit.intOf]; omega
      · have e1 : decide ((q0 : Int) < (q1 : Int)) = false := by simpa using hqq
        have hfin : Hid (opc off m (s + 1) = oc) := by show _ = _; rw [hstep.out, if_neg hqq]; rfl
        go_wp2
        go_round
        case rel => exact ⟨s + 1, oc, by omega, by go_num, rfl, hfin.out.symm⟩
        case measure => simp [RowKit.intOf]; omega
    · have hd : decide ((s : Int) < (n : Int)) = false := by simpa using hlt
      have hsn : s = n := by omega
      have HK : Hid (oc = nops (ck off m)) := by show _ = _; rw [HOC.out, hsn, opc_all HN.out.2.2]
      clear hsn hs HOC g1 g2 g3 g4 g5 g6
      have hc0 : (w.alloc (.cells #[.int .i64 0, .int .i64 n] 33)).cell? ⟨w.heap.size, 0, none⟩ = some (.int .i64 0) := cell_of_row _ _ 0 _ _ _ (heap_alloc_last _ _)
      have hc1 : (w.alloc (.cells #[.int .i64 0, .int .i64 n] 33)).cell? ⟨w.heap.size, 1, none⟩ = some (.int .i64 n) := cell_of_row _ _ 1 _ _ _ (heap_alloc_last _ _)
      have hbx : Below w.heap.size w (w.alloc (.cells #[.int .i64 0, .int .i64 n] 33)) := (Below.refl _ _).alloc (Nat.le_refl _) _
      have hzx : w.heap.size < (w.alloc (.cells #[.int .i64 0, .int .i64 n] 33)).heap.size := by simp
      have hak := armOk_one (K := (oc : Int)) (by omega)
      go_wp2_with (at_make; refine wpList_make_bytes _ rfl _ _ rfl m (by exact rfl) (by exact rfl) (by omega) ?_; intro w2 g hg hgl hr hgr)
      have H2 : Hid (Side w2 (fun b => w2.heap.size ≤ b) w.heap.size g n m ∧ Below w.heap.size w w2) := by
        have hsz := hgr.size
        exact ⟨⟨hgr.cell hc0 (by simp), hgr.cell hc1 (by simp), hr, fun h => by omega, fun h => by omega⟩, hbx.grown hgr (by omega) fun k e => by cases e⟩
      clear hc0 hc1 hbx hzx hg hgl hr hgr
      refine (new_yes n w2 HN.out.1 (by have := HN.out.2.1; omega)).mono ?_
      rintro e w3 ⟨a, rfl, ha, hpd, hb3⟩
      have H3 : Hid (PD w3 (newF w2 w3) a n (Dsk.fresh st0) ∧ Side w3 (newF w2 w3) w.heap.size g n m ∧ Below w.heap.size w w3) :=
        ⟨hpd, H2.out.1.step (Frm.of_below hb3) fun b hb => .inl hb.1, H2.out.2.trans (hb3.mono H2.out.2.size)⟩
      have hlo3 := Lib.hid (fun b (hb : newF w2 w3 b) => Nat.le_trans H2.out.2.size hb.1)
      have hbf : Below w3.heap.size w3 (w3.alloc (.cells #[.int .i64 oc, .int .i64 1] 62)) := (Below.refl _ _).alloc (Nat.le_refl _) _
      have hP4 := pairs_row (F := newF w2 w3) (heap_alloc_last w3 (.cells #[.int .i64 oc, .int .i64 1] 62)) (fun h => Nat.lt_irrefl _ h.2) (by omega)
      have harm := arm_any (hpd.below hbf) _ 1 1 _ hP4 (by omega) (fun h => by cases h)
      simp only [hak, if_true] at harm
      have H4 := Lib.hid (And.intro (H3.out.2.1.same (Frm.of_below hbf)) (H3.out.2.2.trans (hbf.mono H3.out.2.2.size)))
      clear hpd hb3 hbf hP4 ha hak
      go_wp2_with fail
      refine harm.mono ?_
      rintro e w4 ⟨rfl, hp4, hf4⟩
      have hside4 := H4.out.1.wide hf4
      have hD4 := opd_arm (K := (oc : Int)) hp4 rfl hlo3.out H4.out.2 hf4
      clear hp4 hf4 harm
      generalize (fun b => newF w2 w3 b ∨ newF (w3.alloc (.cells #[.int .i64 oc, .int .i64 1] 62)) w4 b) = F4 at *
      have hwr := opd_write hD4 rfl off m g HN.out.1 HN.out.2.2 HN.out.2.1 hside4.has
      have x0 := hside4.c0
      have x1 := hside4.c1
      have HS4 := Lib.hid hside4
      clear hside4 hD4
      go_wp2_with fail
      refine hwr.mono ?_
      rintro e w5 ⟨z5, S5, F5, rfl, hD5, hG5, hf5, hz5, _⟩
      obtain ⟨rfl, hc5⟩ := hz5 (.inr (by rw [HK.out]; exact Int.le_refl _))
      have HS5 := Lib.hid (HS4.out.step hf5 hG5)
      have hsy := opd_sync hD5 (by omega) (by have := HK.out; omega)
      have HC5 := Lib.hid hc5
      have HD5 := Lib.hid (And.intro hD5.lo hD5.bel)
      clear hf5 hz5 hwr x0 x1 hD5 hc5
      go_wp2_with fail
      refine hsy.mono ?_
      rintro e w6 ⟨z6, S6, rfl, hp6, ho6, hf6, hz6, _⟩
      obtain rfl := hz6 (by rw [HC5.out, HK.out])
      have HS6 := Lib.hid (HS5.out.same hf6)
      have H6 := Lib.hid (And.intro hp6 (And.intro ho6 (HD5.out.2.trans (hf6.below HD5.out.1 HD5.out.2.size))))
      clear hp6 ho6 hf6 hz6 hsy
      by_cases ho : oc = 0
      · have ho' : ((oc : Int) == 0) = true := by simp; omega
        subst ho
        go_wp2_with fail
        refine (awake6_any w6).mono ?_
        rintro e w7 hy
        have HY := Lib.hid (yes_of H6.out.2.2 hy)
        obtain ⟨rfl, _⟩ := hy
        go_wp2_with fail
        go_ret
        exact HY.out
      · have ho' : ((oc : Int) == 0) = false := by simp; omega
        have hbf : Below w6.heap.size w6 (w6.alloc (.cells #[.int .i64 ((oc : Int) - 1), .int .i64 1] 62)) := (Below.refl _ _).alloc (Nat.le_refl _) _
        have hP7 := pairs_row (F := F5) (heap_alloc_last w6 (.cells #[.int .i64 ((oc : Int) - 1), .int .i64 1] 62)) (fun h => Nat.lt_irrefl _ (H6.out.1.lt _ h)) (by omega)
        have harm := arm_any (H6.out.1.below hbf) _ 1 1 _ hP7 (by omega) (fun h => by cases h)
        have hak := armOk_one (K := (oc : Int) - 1) (by omega)
        simp only [hak, if_true] at harm
        have H7 := Lib.hid (And.intro (HS6.out.same (Frm.of_below hbf)) (H6.out.2.2.trans (hbf.mono H6.out.2.2.size)))
        clear hbf hP7 hak
        go_wp2_with fail
        refine harm.mono ?_
        rintro e w7 ⟨rfl, hp7, hf7⟩
        have hside7 := H7.out.1.wide hf7
        have hD7 := opd_arm (K := (oc : Int) - 1) hp7 H6.out.2.1 HD5.out.1 H7.out.2 hf7
        clear hp7 hf7 harm
        generalize (fun b => F5 b ∨ newF (w6.alloc (.cells #[.int .i64 ((oc : Int) - 1), .int .i64 1] 62)) w7 b) = F7 at *
        have hwr := opd_write hD7 rfl off m g HN.out.1 HN.out.2.2 HN.out.2.1 hside7.has
        have x0 := hside7.c0
        have x1 := hside7.c1
        clear hside7 hD7
        go_wp2_with fail
        refine hwr.mono ?_
        rintro e w8 ⟨z8, S8, F8, rfl, hD8, hG8, hf8, _, hz8⟩
        obtain ⟨rfl, hc8⟩ := hz8 (by omega) (by rw [← HK.out]; omega)
        have hsy := opd_sync hD8 (by omega) (by omega)
        have HD8 := Lib.hid (And.intro hD8.lo hD8.bel)
        have HC8 := Lib.hid hc8
        clear hf8 hz8 hwr x0 x1 hD8 hc8
        go_wp2_with fail
        refine hsy.mono ?_
        rintro e w9 ⟨z9, S9, rfl, hp9, _, hf9, _, hz9⟩
        obtain rfl := hz9 (by rw [HC8.out]; omega)
        have HB9 := Lib.hid (HD8.out.2.trans (hf9.below HD8.out.1 HD8.out.2.size))
        clear hp9 hf9 hz9 hsy
        go_wp2_with fail
        refine (awake6_any w9).mono ?_
        rintro e wa hy
        have HY := Lib.hid (yes_of HB9.out hy)
        obtain ⟨rfl, _⟩ := hy
        go_wp2_with fail
        go_ret
        exact HY.out

theorem ops_awake (n off m : Int) (w : World) (h : n < 1 ∨ 40 < n ∨ off < 0 ∨ m < 0 ∨ n * 64 < off ∨ n * 64 - off < m) :
    Calls Try.prog 5 #[.int .i64 n, .int .i64 off, .int .i64 m] w (Yes w) := by
  have key : ∀ (b1 b2 b3 b4 b5 b6 : Bool), decide (n < 1) = b1 → decide (40 < n) = b2 → decide (off < 0) = b3 → decide (m < 0) = b4 → decide (n * 64 < off) = b5 → decide (n * 64 - off < m) = b6 → (b1 || b2 || b3 || b4 || b5 || b6) = true →
      Calls Try.prog 5 #[.int .i64 n, .int .i64 off, .int .i64 m] w (Yes w) := by
    intro b1 b2 b3 b4 b5 b6 h1 h2 h3 h4 h5 h6 hb
    have W := fun (hx : ¬ n < 1) (hy : ¬ 40 < n) => And.intro (show wrap64 (n * 64) = n * 64 by unfold wrap64; omega) (show ∀ z : Int, 0 ≤ z → z ≤ 2560 → wrap64 (n * 64 - z) = n * 64 - z by intro z _ _; unfold wrap64; omega)
    clear h
    cases b1
    · cases b2
      · have hn1 : 1 ≤ n := by simpa using h1
        have hn40 : n ≤ 40 := by simpa using h2
        cases b3
        · have ho0 : 0 ≤ off := by simpa using h3
          cases b4
          · cases b5
            · have ho1 : off ≤ n * 64 := by simpa using h5
              have ho2 : off ≤ 2560 := by omega
              cases b6
              · simp at hb
              · have h5' := h5
                clear hb W h1 h2 h3 h5 ho1
                have g1 : decide (n < 1) = false := by simp; omega
                have g2 : decide (40 < n) = false := by simp; omega
                have g3 : decide (off < 0) = false := by simp; omega
                have g5 : decide (n * 64 < off) = false := h5'
                go_enter Try.func5, Try.ntmps5
                go_wp2_with (go_at_call 8; refine (awake6_any _).mono ?_; rintro e w2 ⟨rfl, hb2⟩)
                go_ret
                exact ⟨rfl, hb2⟩
            · clear hb W
              go_enter Try.func5, Try.ntmps5
              go_wp2_with (go_at_call 8; refine (awake6_any _).mono ?_; rintro e w2 ⟨rfl, hb2⟩)
              go_ret
              exact ⟨rfl, hb2⟩
          · clear hb W h5 h6
            go_enter Try.func5, Try.ntmps5
            go_wp2_with (go_at_call 8; refine (awake6_any _).mono ?_; rintro e w2 ⟨rfl, hb2⟩)
            go_ret
            exact ⟨rfl, hb2⟩
        · clear hb W h4 h5 h6
          go_enter Try.func5, Try.ntmps5
          go_wp2_with (go_at_call 8; refine (awake6_any _).mono ?_; rintro e w2 ⟨rfl, hb2⟩)
          go_ret
          exact ⟨rfl, hb2⟩
      · clear hb W h3 h4 h5 h6
        go_enter Try.func5, Try.ntmps5
        go_wp2_with (go_at_call 8; refine (awake6_any _).mono ?_; rintro e w2 ⟨rfl, hb2⟩)
        go_ret
        exact ⟨rfl, hb2⟩
    · clear hb W h2 h3 h4 h5 h6
      go_enter Try.func5, Try.ntmps5
      go_wp2_with (go_at_call 8; refine (awake6_any _).mono ?_; rintro e w2 ⟨rfl, hb2⟩)
      go_ret
      exact ⟨rfl, hb2⟩
  exact key _ _ _ _ _ _ rfl rfl rfl rfl rfl rfl (by simp; omega)
theorem walkOps (n off m : Int) (w : World) (_ : (Lit.int .i64 n).wf = true) (_ : (Lit.int .i64 off).wf = true) (_ : (Lit.int .i64 m).wf = true) :
    Calls Try.prog 5 #[.int .i64 n, .int .i64 off, .int .i64 m] w (Yes w) := by
  by_cases h : n < 1 ∨ 40 < n ∨ off < 0 ∨ m < 0 ∨ n * 64 < off ∨ n * 64 - off < m
  · exact ops_awake n off m w h
  · obtain ⟨n', rfl⟩ : ∃ k : Nat, n = k := ⟨n.toNat, by omega⟩
    obtain ⟨off', rfl⟩ : ∃ k : Nat, off = k := ⟨off.toNat, by omega⟩
    obtain ⟨m', rfl⟩ : ∃ k : Nat, m = k := ⟨m.toNat, by omega⟩
    exact ops_good n' off' m' w (by omega) (by omega) (by omega)

end Go.Proofs.Ytpnebhfegahaoaa
