/-
  The walk of SectorMatchesSpec.
-/
import Derived.Test.YtpnebhfegahaoaaDrT
import Derived.BigQuiet
namespace Go.Proofs.Ytpnebhfegahaoaa
open Go.RowKit

/-- Where the walk stands between two rounds. -/
def InStep (w x : World) (a1 a2 n : Nat) : Prop := ∃ F1 F2 S, Two w x F1 F2 a1 a2 n S S
theorem Two.step {w x : World} {F1 F2 : Nat → Prop} {a1 a2 n : Nat} {S : Dsk} (h : Two w x F1 F2 a1 a2 n S S) : InStep w x a1 a2 n := ⟨F1, F2, S, h⟩
theorem two_start {w w1 w2 : World} {a1 a2 n : Nat} {S : Dsk} (h1 : PD w1 (newF w w1) a1 n S) (b1 : Below w.heap.size w w1) (h2 : RD w2 (newF w1 w2) a2 n S) (b2 : Below w1.heap.size w1 w2) : Two w w2 (newF w w1) (newF w1 w2) a1 a2 n S S :=
  ⟨h1.below b2, h2, fun b hb hb2 => by have := hb.2; have := hb2.1; omega, fun b hb => hb.1, fun b hb => by have := hb.1; have := b1.size; omega, b1.trans (b2.mono b1.size)⟩

set_option maxRecDepth 20000 in
set_option maxHeartbeats 12800000 in
theorem spec_good (n : Nat) (A : Option Addr) (m c : Nat) (os : List OpV) (w : World) (h1 : 1 ≤ n) (h100 : n ≤ 100) (hO : OpsIn w A m os)
    (hs : Calls Try.prog 36 #[.slice A m c] w (SmallQ m os w)) :
    Calls Try.prog 6 #[.int .i64 n, .slice A m c] w (Yes w) := by
  have HO := Lib.hid hO
  have hnew := new_yes n w h1 (by omega)
  have HN := Lib.hid (And.intro h1 h100)
  have hg1 : decide ((100 : Int) < (n : Int)) = false := by simp; omega
  clear hO h1 h100
  go_enter Try.func6, Try.ntmps6
  go_wp2_with fail
  refine hs.mono ?_
  rintro e w' ⟨bb, rfl, hbb, rfl⟩
  cases bb
  · clear hbb hnew hs
    go_wp2_with fail
    refine (awake_any _).mono ?_
    rintro e w2 ⟨rfl, hb2⟩
    go_wp2_with fail
    go_ret
    exact ⟨rfl, hb2⟩
  obtain ⟨hm, hsm⟩ := hbb rfl
  have HS := Lib.hid hsm
  have HM := Lib.hid hm
  clear hsm hm hbb hs
  go_wp2_with fail
  refine hnew.mono ?_
  rintro e w1 ⟨a1, rfl, ha1, hpd, hb1⟩
  have HP := Lib.hid hpd
  have HB1 := Lib.hid hb1
  clear hnew hpd hb1 ha1
  go_wp2_with fail
  refine (rnew_yes n w1 HN.out.1 (by have := HN.out.2; omega)).mono ?_
  rintro e w2 ⟨a2, rfl, hrd, hb2⟩
  have HT0 := Lib.hid (two_start HP.out HB1.out hrd hb2).step
  clear hrd hb2 HP HB1
  go_wp2_with fail
  go_loopw [9] (fun i wr => ∃ k : Nat, k ≤ m ∧ i = .int .i64 k ∧ Hid (InStep w wr a1 a2 n)) (fun i _ => m - (RowKit.intOf i).toNat)
  case atStart => exact ⟨0, Nat.zero_le _, rfl, HT0.out⟩
  case round =>
    obtain ⟨k, hk, rfl, HR⟩ := hrel
    have hkb : (k : Int) ≤ 80 := by have := HM.out; omega
    by_cases hlt : k < m
    · have hd : decide ((k : Int) < (m : Int)) = true := by simpa using hlt
      have hki : (k : Int) < (m : Int) := by omega
      obtain ⟨b, off, rfl, hbw, hc⟩ := HO.out.2 (by omega)
      have hkf : k < os.length := by rw [HO.out.1]; exact hlt
      obtain ⟨hop, e0, e1, e2, e3, e4⟩ := hc k hkf
      obtain ⟨F1, F2, S, hT⟩ := HR.out
      have d0 := (hT.bel.cell (p := ⟨b, off + k * 5, none⟩) hbw).trans e0
      have d1 := (hT.bel.cell (p := ⟨b, off + k * 5 + 1, none⟩) hbw).trans e1
      have d2 := (hT.bel.cell (p := ⟨b, off + k * 5 + 2, none⟩) hbw).trans e2
      have d3 := (hT.bel.cell (p := ⟨b, off + k * 5 + 3, none⟩) hbw).trans e3
      have d4 := (hT.bel.cell (p := ⟨b, off + k * 5 + 4, none⟩) hbw).trans e4
      have hsz := HS.out k hkf
      clear e0 e1 e2 e3 e4
      generalize os[k] = o at d0 d1 d2 d3 d4 hop hsz
      obtain ⟨kd, sc, A8, n8, c8, l8, Af, nf, cf, fs, Ak, nk, ck, ks⟩ := o
      have H8 : Hid (Arg8 w A8 n8 c8 l8) := hop.a8
      have HF : Hid (PairsF noF w Af nf fs ∧ (Af = none → cf = 0)) := ⟨hop.f.1, hop.f.2.1⟩
      have HK : Hid (PairsF noF w Ak nk ks) := hop.p.1
      have HZ : Hid (n8 ≤ 100 ∧ nf ≤ 66 ∧ nk ≤ 80) := hsz
      simp only [] at d0 d1 d2 d3 d4
      clear hop hsz hc hkf
      have hb0 : Below wr.heap.size wr (wr.alloc (.cells #[.int .i64 kd, .int .i64 sc, .slice A8 n8 c8, .slice Af nf cf, .slice Ak nk ck] 67)) := (Below.refl _ _).alloc (Nat.le_refl _) _
      have HT := Lib.hid (hT.below hb0)
      have hz1 : Hid (¬ F1 wr.heap.size) := fun h => Nat.lt_irrefl _ (hT.p.lt _ h)
      have hz2 : Hid (¬ F2 wr.heap.size) := fun h => Nat.lt_irrefl _ (hT.r.lt _ h)
      have hl0 := heap_alloc_last wr (.cells #[.int .i64 kd, .int .i64 sc, .slice A8 n8 c8, .slice Af nf cf, .slice Ak nk ck] 67)
      have z1 : (wr.alloc (.cells #[.int .i64 kd, .int .i64 sc, .slice A8 n8 c8, .slice Af nf cf, .slice Ak nk ck] 67)).cell? ⟨wr.heap.size, 1, none⟩ = some (.int .i64 sc) := cell_of_row _ wr.heap.size 1 _ _ _ hl0
      have z2 : (wr.alloc (.cells #[.int .i64 kd, .int .i64 sc, .slice A8 n8 c8, .slice Af nf cf, .slice Ak nk ck] 67)).cell? ⟨wr.heap.size, 2, none⟩ = some (.slice A8 n8 c8) := cell_of_row _ wr.heap.size 2 _ _ _ hl0
      have z3 : (wr.alloc (.cells #[.int .i64 kd, .int .i64 sc, .slice A8 n8 c8, .slice Af nf cf, .slice Ak nk ck] 67)).cell? ⟨wr.heap.size, 3, none⟩ = some (.slice Af nf cf) := cell_of_row _ wr.heap.size 3 _ _ _ hl0
      have z4 : (wr.alloc (.cells #[.int .i64 kd, .int .i64 sc, .slice A8 n8 c8, .slice Af nf cf, .slice Ak nk ck] 67)).cell? ⟨wr.heap.size, 4, none⟩ = some (.slice Ak nk ck) := cell_of_row _ wr.heap.size 4 _ _ _ hl0
      clear hT hb0 HR hk hl0
      by_cases hk0 : kd = 0
      · subst kd
        go_wp2_with fail
        generalize (wr.alloc (.cells #[.int .i64 0, .int .i64 sc, .slice A8 n8 c8, .slice Af nf cf, .slice Ak nk ck] 67)) = v0 at *
        generalize wr.heap.size = z at *
        refine (read_any HT.out.p sc).mono ?_
        rintro e w3 ⟨v1, rfl, ⟨A1, m1, q1, rfl, _, hm1, hv1⟩, hp1, hf1⟩
        have HT1 := Lib.hid (HT.out.p_same hp1 hf1)
        have HV1 := Lib.hid hv1
        have hlt2 := Lib.hid (fun b (hb : F2 b) => HT.out.r.lt b hb)
        have y1 := (hf1.cell (p := ⟨z, 1, none⟩) (cell_lt z1) hz1.out).trans z1
        clear hp1 hf1 hv1 z1 z2 z3 z4 d0 d1 d2 d3 d4 hm1
        go_wp2_with fail
        refine (rread_got HT1.out.r sc).mono ?_
        rintro e w4 ⟨v2, rfl, ⟨A2, m2, q2, rfl, _, hm2, hv2⟩, hp2, hf2⟩
        have HT2 := Lib.hid (HT1.out.r_same hp2 hf2)
        have hby := bytes_any A1 A2 m1 q1 m2 q2 w4.heap.size _ _ w4 (rdv_has HV1.out hlt2.out hf2) (hv2 (fun _ => False) (fun _ h => h.elim)).has
        rw [eqL_same] at hby
        clear hp2 hf2 hv2 y1 hm2
        have hq : (S.ans (inR n sc) == S.ans (inR n sc)) = true := by simp
        generalize S.ans (inR n sc) = er at *
        go_wp2_with (go_at_call 13; refine hby.mono ?_; rintro e w' ⟨rfl, rfl⟩)
        go_wp2_with fail
        refine (same_any HT2.out.p HT2.out.r).mono ?_
        rintro e w9 ⟨rfl, hb9⟩
        have H9 := Lib.hid (HT2.out.below hb9).step
        clear hb9
        go_wp2_with fail
        go_roundw
        case rel => exact ⟨k + 1, by omega, by go_num, H9⟩
        case measure => simp [RowKit.intOf]; omega
      · have hk0n : (kd == 0) = false := by simpa using hk0
        clear hk0
        by_cases hk1 : kd = 1
        · subst kd
          go_wp2_with fail
          generalize (wr.alloc (.cells #[.int .i64 1, .int .i64 sc, .slice A8 n8 c8, .slice Af nf cf, .slice Ak nk ck] 67)) = v0 at *
          generalize wr.heap.size = z at *
          have hTd := HT.out.below ((Below.refl v0.heap.size v0).drew)
          have hod := ownBytes_any A8 n8 c8 v0.drew.heap.size l8 v0.drew (hTd.has1 H8.out.1).has H8.out.2.2.2 (by have := HZ.out.1; omega) (Nat.le_refl _)
          have HTd := Lib.hid hTd
          clear hTd z3 z4 d0 d1 d2 d3 d4
          go_region_held3 (fun W => W.cell? ⟨z, 1, none⟩ = some (.int .i64 sc) ∧ W.cell? ⟨z, 2, none⟩ = some (.slice A8 n8 c8)) (first | exact ⟨s1, s2⟩ | go_keep)
            (first
              | (go_at_call 14
                 refine hod.mono ?_
                 rintro e wo ⟨⟨vo, rfl, hown⟩, hbo⟩
                 obtain ⟨Ao, qo, rfl, _, _⟩ := Has.of_own hown
                 have s1 := (hbo.cell (p := ⟨z, 1, none⟩) (cell_lt z1)).trans z1
                 have s2 := (hbo.cell (p := ⟨z, 2, none⟩) (cell_lt z2)).trans z2
                 have HTo := Lib.hid (HTd.out.below hbo)
                 have HAo := Lib.hid (hasF_own (F := F1) hown (fun b hb => HTd.out.p.lt b hb))
                 clear hown hbo)
              | (go_at_call 40
                 refine (write_any HTo.out.p sc Ao n8 qo l8 HAo.out).mono ?_
                 rintro e wp ⟨rfl, hpp, hfp⟩
                 have s3 := (hfp.cell (p := ⟨z, 1, none⟩) (cell_lt s1) hz1.out).trans s1
                 have s4 := (hfp.cell (p := ⟨z, 2, none⟩) (cell_lt s2) hz1.out).trans s2
                 have s1 := s3
                 have s2 := s4
                 have HTp := Lib.hid (HTo.out.p_step hpp hfp)
                 clear hpp hfp)
              | (go_at_call 41
                 refine (rwrite_any HTp.out.r sc A8 n8 c8 l8 (HTp.out.has2 H8.out.1)).mono ?_
                 rintro e wq ⟨rfl, hpq, hfq⟩
                 have s3 := (hfq.cell (p := ⟨z, 1, none⟩) (cell_lt s1) hz2.out).trans s1
                 have s4 := (hfq.cell (p := ⟨z, 2, none⟩) (cell_lt s2) hz2.out).trans s2
                 have s1 := s3
                 have s2 := s4
                 have HTq := Lib.hid (HTp.out.r_step hpq hfq)
                 clear hpq hfq))
          have hq : (S.ans (inR n sc && decide (n8 = 64)) == S.ans (inR n sc && decide (n8 = 64))) = true := by simp
          generalize S.ans (inR n sc && decide (n8 = 64)) = er at *
          go_wp2_with fail
          refine (same_any HTq.out.p HTq.out.r).mono ?_
          rintro e w9 ⟨rfl, hb9⟩
          have H9 := Lib.hid (HTq.out.below hb9).step
          clear hb9
          go_wp2_with fail
          go_roundw
          case rel => exact ⟨k + 1, by omega, by go_num, H9⟩
          case measure => simp [RowKit.intOf]; omega
        · have hk1n : (kd == 1) = false := by simpa using hk1
          clear hk1
          by_cases hk2 : kd = 2
          · subst kd
            go_wp2_with fail
            generalize (wr.alloc (.cells #[.int .i64 2, .int .i64 sc, .slice A8 n8 c8, .slice Af nf cf, .slice Ak nk ck] 67)) = v0 at *
            generalize wr.heap.size = z at *
            refine (sync_any HT.out.p).mono ?_
            rintro e w3 ⟨rfl, hp1, hf1⟩
            have HT1 := Lib.hid (HT.out.p_same hp1 hf1)
            clear hp1 hf1 z1 z2 z3 z4 d0 d1 d2 d3 d4
            go_wp2_with fail
            refine (rsync_any HT1.out.r).mono ?_
            rintro e w4 ⟨rfl, hp2, hf2⟩
            have HT2 := Lib.hid (HT1.out.r_same hp2 hf2)
            clear hp2 hf2
            have hq : (S.ans true == S.ans true) = true := by simp
            generalize S.ans true = er at *
            go_wp2_with fail
            refine (same_any HT2.out.p HT2.out.r).mono ?_
            rintro e w9 ⟨rfl, hb9⟩
            have H9 := Lib.hid (HT2.out.below hb9).step
            clear hb9
            go_wp2_with fail
            go_roundw
            case rel => exact ⟨k + 1, by omega, by go_num, H9⟩
            case measure => simp [RowKit.intOf]; omega
          · have hk2n : (kd == 2) = false := by simpa using hk2
            clear hk2
            by_cases hk3 : kd = 3
            · subst kd
              go_wp2_with fail
              generalize (wr.alloc (.cells #[.int .i64 3, .int .i64 sc, .slice A8 n8 c8, .slice Af nf cf, .slice Ak nk ck] 67)) = v0 at *
              generalize wr.heap.size = z at *
              have HTd := Lib.hid (HT.out.below ((Below.refl v0.heap.size v0).drew))
              obtain ⟨er, her⟩ : ∃ er : Int, (if armOk fs then (0 : Int) else 1) = er := ⟨_, rfl⟩
              obtain ⟨S3, hS3⟩ : ∃ S3 : Dsk, (if armOk fs then S.armed fs else S) = S3 := ⟨_, rfl⟩
              have harm := arm_any HTd.out.p Af nf cf fs (HTd.out.prs1 HF.out.1) (by have := HZ.out.2.1; omega) HF.out.2
              rw [her, hS3] at harm
              have her := Lib.hid her
              have hS3 := Lib.hid hS3
              clear z1 z2 z4 d0 d1 d2 d3 d4
              go_region_held3 (fun W => W.cell? ⟨z, 3, none⟩ = some (.slice Af nf cf)) (first | exact s1 | go_keep)
                (first
                  | (go_at_call 19
                     refine harm.mono ?_
                     rintro e wp ⟨rfl, hpp, hfp⟩
                     have s1 := (hfp.cell (p := ⟨z, 3, none⟩) (cell_lt z3) hz1.out).trans z3
                     have HTp := Lib.hid (HTd.out.p_step hpp hfp)
                     clear hpp hfp)
                  | (go_at_call 20
                     have hra := rarm_any HTp.out.r Af nf cf fs (HTp.out.prs2 HF.out.1) (by have := HZ.out.2.1; omega) HF.out.2
                     rw [her.out, hS3.out] at hra
                     refine hra.mono ?_
                     rintro e wq ⟨rfl, hpq, hfq⟩
                     have s3 := (hfq.cell (p := ⟨z, 3, none⟩) (cell_lt s1) hz2.out).trans s1
                     have s1 := s3
                     have HTq := Lib.hid (HTp.out.r_step hpq hfq)
                     clear hpq hfq))
              go_wp2_with fail
              refine (same_any HTq.out.p HTq.out.r).mono ?_
              rintro e w9 ⟨rfl, hb9⟩
              have H9 := Lib.hid (HTq.out.below hb9).step
              clear hb9
              go_wp2_with fail
              go_roundw
              case rel => exact ⟨k + 1, by omega, by go_num, H9⟩
              case measure => simp [RowKit.intOf]; omega
            · have hk3n : (kd == 3) = false := by simpa using hk3
              clear hk3
              by_cases hk4 : kd = 4
              · subst kd
                go_wp2_with fail
                generalize (wr.alloc (.cells #[.int .i64 4, .int .i64 sc, .slice A8 n8 c8, .slice Af nf cf, .slice Ak nk ck] 67)) = v0 at *
                generalize wr.heap.size = z at *
                refine (cut_any HT.out.p).mono ?_
                rintro e w3 ⟨rfl, hp1, hf1⟩
                have HT1 := Lib.hid (HT.out.p_same hp1 hf1)
                clear hp1 hf1 z1 z2 z3 z4 d0 d1 d2 d3 d4
                go_wp2_with fail
                refine (rcut_any HT1.out.r).mono ?_
                rintro e w4 ⟨rfl, hp2, hf2⟩
                have HT2 := Lib.hid (HT1.out.r_same hp2 hf2)
                clear hp2 hf2
                go_wp2_with fail
                refine (same_any HT2.out.p HT2.out.r).mono ?_
                rintro e w9 ⟨rfl, hb9⟩
                have H9 := Lib.hid (HT2.out.below hb9).step
                clear hb9
                go_wp2_with fail
                go_roundw
                case rel => exact ⟨k + 1, by omega, by go_num, H9⟩
                case measure => simp [RowKit.intOf]; omega
              · have hk4n : (kd == 4) = false := by simpa using hk4
                clear hk4
                go_wp2_with fail
                generalize (wr.alloc (.cells #[.int .i64 kd, .int .i64 sc, .slice A8 n8 c8, .slice Af nf cf, .slice Ak nk ck] 67)) = v0 at *
                generalize wr.heap.size = z at *
                refine (restart_any HT.out.p Ak nk ck ks (HT.out.prs1 HK.out) (by have := HZ.out.2.2; omega)).mono ?_
                rintro e w3 ⟨rfl, hp1, hf1⟩
                have HT1 := Lib.hid (HT.out.p_same hp1 hf1)
                have y4 := (hf1.cell (p := ⟨z, 4, none⟩) (cell_lt z4) hz1.out).trans z4
                clear hp1 hf1 z1 z2 z3 z4 d0 d1 d2 d3 d4
                go_wp2_with fail
                refine (rrestart_any HT1.out.r Ak nk ck ks (HT1.out.prs2 HK.out) (by have := HZ.out.2.2; omega)).mono ?_
                rintro e w4 ⟨rfl, hp2, hf2⟩
                have HT2 := Lib.hid (HT1.out.r_step hp2 hf2)
                clear hp2 hf2 y4
                go_wp2_with fail
                refine (same_any HT2.out.p HT2.out.r).mono ?_
                rintro e w9 ⟨rfl, hb9⟩
                have H9 := Lib.hid (HT2.out.below hb9).step
                clear hb9
                go_wp2_with fail
                go_roundw
                case rel => exact ⟨k + 1, by omega, by go_num, H9⟩
                case measure => simp [RowKit.intOf]; omega
    · have hd : decide ((k : Int) < (m : Int)) = false := by simpa using hlt
      obtain ⟨F1, F2, S, hT⟩ := HR.out
      have HB := Lib.hid hT.bel
      clear hT
      go_wp2_with fail
      refine (awake_any wr).mono ?_
      rintro e w9 hy
      have HY := Lib.hid (yes_of HB.out hy)
      obtain ⟨rfl, _⟩ := hy
      go_wp2_with fail
      go_ret
      exact HY.out

set_option maxRecDepth 20000 in
set_option maxHeartbeats 3200000 in
theorem spec_bad (n : Int) (A : Option Addr) (m c : Nat) (os : List OpV) (w : World) (hp : possB n = false) (hg : (decide ((100 : Int) < n) && decide (n ≤ 4096)) = false)
    (hs : Calls Try.prog 36 #[.slice A m c] w (SmallQ m os w)) :
    Calls Try.prog 6 #[.int .i64 n, .slice A m c] w (Yes w) := by
  have hnew := new_no n w hp
  have hrnew := rnew_no n w hp
  have hno : ∀ (K : Prop), (∀ b1 b2, decide ((100 : Int) < n) = b1 → decide (n ≤ 4096) = b2 → (b1 && b2) = false → K) → K := fun K h => h _ _ rfl rfl hg
  refine hno _ fun b1 b2 hb1 hb2 hb => ?_
  clear hno hp hg
  cases b1
  all_goals (first | (cases b2) | skip)
  all_goals (first | (exfalso; simp at hb; done) | skip)
  all_goals clear hb
  all_goals go_enter Try.func6, Try.ntmps6
  all_goals go_wp2_with fail
  all_goals refine hs.mono ?_
  all_goals rintro e w' ⟨bb, rfl, hbb, rfl⟩
  all_goals clear hbb
  all_goals cases bb
  all_goals go_wp2_with (first
    | (go_at_call 9; refine hnew.mono ?_; rintro e w' ⟨rfl, rfl⟩)
    | (go_at_call 10; refine hrnew.mono ?_; rintro e w' ⟨rfl, rfl⟩)
    | (go_at_call 37; refine (awake_any _).mono ?_; rintro e w2 ⟨rfl, hb2⟩))
  all_goals first | (go_ret; exact ⟨rfl, hb2⟩) | skip
  all_goals go_loopw [9] (fun i wr => i = .int .i64 0 ∧ Hid (wr = w)) (fun i _ => 0)
  all_goals first
    | exact ⟨rfl, rfl⟩
    | (obtain ⟨rfl, hw⟩ := hrel
       go_wp2_with (go_at_call 37; refine (awake_any _).mono ?_; rintro e w2 ⟨rfl, hb2⟩)
       go_ret
       rw [hw.out] at hb2
       exact ⟨rfl, hb2⟩)

set_option maxHeartbeats 1600000 in
theorem walkSpec (n : Int) (A : Option Addr) (m c : Nat) (w : World) (_ : (Lit.int .i64 n).wf = true) (hO : ∃ os, OpsIn w A m os ∧ m ≤ maxLen) :
    Calls Try.prog 6 #[.int .i64 n, .slice A m c] w (Yes w) := by
  obtain ⟨os, hO, _⟩ := hO
  have hs := small_any A m c os w hO
  by_cases hbig : 100 < n ∧ n ≤ 4096
  · have h1 : decide ((100 : Int) < n) = true := by simpa using hbig.1
    have h2 : decide (n ≤ 4096) = true := by simpa using hbig.2
    clear hbig hO hs
    go_enter Try.func6, Try.ntmps6
    go_wp2_with (go_at_call 37; refine (awake_any _).mono ?_; rintro e w2 ⟨rfl, hb2⟩)
    go_ret
    exact ⟨rfl, hb2⟩
  · by_cases hn : 1 ≤ n ∧ n ≤ 100
    · obtain ⟨k, rfl⟩ : ∃ k : Nat, n = k := ⟨n.toNat, by omega⟩
      exact spec_good k A m c os w (by omega) (by omega) hO hs
    · refine spec_bad n A m c os w ?_ ?_ hs
      · simp [possB]; omega
      · simp; omega

end Go.Proofs.Ytpnebhfegahaoaa
