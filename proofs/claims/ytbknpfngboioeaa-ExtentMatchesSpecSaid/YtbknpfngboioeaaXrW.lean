/-
  The walk of ExtentMatchesSpec.
-/
import Derived.Test.YtbknpfngboioeaaXr3
import Derived.Test.YtbknpfngboioeaaXrO
import Derived.Test.YtbknpfngboioeaaXt5
namespace Go.Proofs.Ytbknpfngboioeaa
open Go.RowKit

def InStep (w x : World) (a1 a2 n : Nat) : Prop := ∃ F1 F2 S, Two w x F1 F2 a1 a2 n S S
theorem Two.step {w x : World} {F1 F2 : Nat → Prop} {a1 a2 n : Nat} {S : Dsk} (h : Two w x F1 F2 a1 a2 n S S) : InStep w x a1 a2 n := ⟨F1, F2, S, h⟩
theorem two_start {w w1 w2 : World} {a1 a2 n : Nat} {S : Dsk} (h1 : PD w1 (newF w w1) a1 n S) (b1 : Below w.heap.size w w1) (h2 : RD w2 (newF w1 w2) a2 n S) (b2 : Below w1.heap.size w1 w2) : Two w w2 (newF w w1) (newF w1 w2) a1 a2 n S S :=
  ⟨h1.below b2, h2, fun b hb hb2 => by have := hb.2; have := hb2.1; omega, fun b hb => hb.1, fun b hb => by have := hb.1; have := b1.size; omega, b1.trans (b2.mono b1.size)⟩
theorem eqL_self (l : List UInt8) : eqL l l = true := by simp [eqL]

set_option maxRecDepth 20000 in
set_option maxHeartbeats 51200000 in
theorem xspec_good (n : Nat) (A : Option Addr) (m c : Nat) (os : List XOpV) (w : World) (h1 : 1 ≤ n) (h60 : n ≤ 60) (hO : XOpsIn w A m os)
    (hs : Calls Try.prog 26 #[.slice A m c] w (XSmallQ m os w)) :
    Calls Try.prog 4 #[.int .i64 n, .slice A m c] w (Yes w) := by
  have HO := Lib.hid hO
  have hnew := new_yes n w h1 (by omega)
  have HN := Lib.hid (And.intro h1 h60)
  have hg1 : decide ((n : Int) < 1) = false := by simp; omega
  have hg2 : decide ((60 : Int) < (n : Int)) = false := by simp; omega
  have hn1 : ¬ n < 1 := by omega
  have hn2 : ¬ 60 < n := by omega
  clear hO h1 h60
  go_enter Try.func4, Try.ntmps4
  go_wp2_with fail
  refine hs.mono ?_
  rintro e w' ⟨bb, rfl, hbb, rfl⟩
  cases bb
  · clear hbb hnew hs
    go_wp2_with fail
    refine (awake6_any _).mono ?_
    rintro e w2 ⟨rfl, hb2⟩
    go_wp2_with fail
    go_ret
    exact ⟨rfl, hb2⟩
  obtain ⟨hm, hsm⟩ := hbb rfl
  have HS := Lib.hid hsm
  have HM := Lib.hid hm
  clear hsm hm hbb hs
  go_wp2_with fail
  refine hnew.mono ?_
  rintro e w1 ⟨a1, rfl, ha1, hpd, hb1⟩
  have HP := Lib.hid hpd
  have HB1 := Lib.hid hb1
  clear hnew hpd hb1 ha1
  go_wp2_with fail
  refine (rnew_yes n w1 HN.out.1 (by have := HN.out.2; omega)).mono ?_
  rintro e w2 ⟨a2, rfl, hrd, hb2⟩
  have HT0 := Lib.hid (two_start HP.out HB1.out hrd hb2).step
  clear hrd hb2 HP HB1
  go_wp2_with fail
  go_loopw [9] (fun i wr => ∃ k : Nat, k ≤ m ∧ i = .int .i64 k ∧ Hid (InStep w wr a1 a2 n)) (fun i _ => m - (RowKit.intOf i).toNat)
  case atStart => exact ⟨0, Nat.zero_le _, rfl, HT0.out⟩
  case round =>
    obtain ⟨k, hk, rfl, HR⟩ := hrel
    have hkb : (k : Int) ≤ 40 := by have := HM.out; omega
    by_cases hlt : k < m
    · have hd : decide ((k : Int) < (m : Int)) = true := by simpa using hlt
      have hki : (k : Int) < (m : Int) := by omega
      obtain ⟨b, off, rfl, hbw, hc⟩ := HO.out.2 (by omega)
      have hkf : k < os.length := by rw [HO.out.1]; exact hlt
      obtain ⟨hop, e0, e1, e2, e3, e4, e5, e6, e7⟩ := hc k hkf
      obtain ⟨F1, F2, S, hT⟩ := HR.out
      have d0 := (hT.bel.cell (p := ⟨b, off + k * 8, none⟩) hbw).trans e0
      have d1 := (hT.bel.cell (p := ⟨b, off + k * 8 + 1, none⟩) hbw).trans e1
      have d2 := (hT.bel.cell (p := ⟨b, off + k * 8 + 2, none⟩) hbw).trans e2
      have d3 := (hT.bel.cell (p := ⟨b, off + k * 8 + 3, none⟩) hbw).trans e3
      have d4 := (hT.bel.cell (p := ⟨b, off + k * 8 + 4, none⟩) hbw).trans e4
      have d5 := (hT.bel.cell (p := ⟨b, off + k * 8 + 5, none⟩) hbw).trans e5
      have d6 := (hT.bel.cell (p := ⟨b, off + k * 8 + 6, none⟩) hbw).trans e6
      have d7 := (hT.bel.cell (p := ⟨b, off + k * 8 + 7, none⟩) hbw).trans e7
      have hsz := HS.out k hkf
      clear e0 e1 e2 e3 e4 e5 e6 e7
      generalize os[k] = ov at d0 d1 d2 d3 d4 d5 d6 d7 hop hsz
      obtain ⟨kd, f, c, o, nn, A8, n8, c8, l8, Af, nf, cf, fs, Ak, nk, ck, ks⟩ := ov
      have H8 : Hid (Arg8 w A8 n8 c8 l8) := hop.a8
      have HF : Hid (PairsF noF w Af nf fs ∧ (Af = none → cf = 0)) := ⟨hop.fl.1, hop.fl.2.1⟩
      have HK : Hid (PairsF noF w Ak nk ks) := hop.p.1
      have HZ : Hid (n8 ≤ 1000 ∧ nf ≤ 66 ∧ nk ≤ 80) := hsz
      have HI : Hid (I64 f ∧ I64 c ∧ I64 o ∧ I64 nn) := ⟨hop.bf, hop.bc, hop.bo, hop.bn⟩
      simp only [] at d0 d1 d2 d3 d4 d5 d6 d7
      clear hop hsz hc hkf
      have hb0 : Below wr.heap.size wr (wr.alloc (.cells #[.int .i64 kd, .int .i64 f, .int .i64 c, .int .i64 o, .int .i64 nn, .slice A8 n8 c8, .slice Af nf cf, .slice Ak nk ck] 52)) := (Below.refl _ _).alloc (Nat.le_refl _) _
      have HT := Lib.hid (hT.below hb0)
      have hz1 : Hid (¬ F1 wr.heap.size) := fun h => Nat.lt_irrefl _ (hT.p.lt _ h)
      have hz2 : Hid (¬ F2 wr.heap.size) := fun h => Nat.lt_irrefl _ (hT.r.lt _ h)
      have hl0 := heap_alloc_last wr (.cells #[.int .i64 kd, .int .i64 f, .int .i64 c, .int .i64 o, .int .i64 nn, .slice A8 n8 c8, .slice Af nf cf, .slice Ak nk ck] 52)
      have z1 : (wr.alloc (.cells #[.int .i64 kd, .int .i64 f, .int .i64 c, .int .i64 o, .int .i64 nn, .slice A8 n8 c8, .slice Af nf cf, .slice Ak nk ck] 52)).cell? ⟨wr.heap.size, 1, none⟩ = some (.int .i64 f) := cell_of_row _ wr.heap.size 1 _ _ _ hl0
      have z2 : (wr.alloc (.cells #[.int .i64 kd, .int .i64 f, .int .i64 c, .int .i64 o, .int .i64 nn, .slice A8 n8 c8, .slice Af nf cf, .slice Ak nk ck] 52)).cell? ⟨wr.heap.size, 2, none⟩ = some (.int .i64 c) := cell_of_row _ wr.heap.size 2 _ _ _ hl0
      have z3 : (wr.alloc (.cells #[.int .i64 kd, .int .i64 f, .int .i64 c, .int .i64 o, .int .i64 nn, .slice A8 n8 c8, .slice Af nf cf, .slice Ak nk ck] 52)).cell? ⟨wr.heap.size, 3, none⟩ = some (.int .i64 o) := cell_of_row _ wr.heap.size 3 _ _ _ hl0
      have z4 : (wr.alloc (.cells #[.int .i64 kd, .int .i64 f, .int .i64 c, .int .i64 o, .int .i64 nn, .slice A8 n8 c8, .slice Af nf cf, .slice Ak nk ck] 52)).cell? ⟨wr.heap.size, 4, none⟩ = some (.int .i64 nn) := cell_of_row _ wr.heap.size 4 _ _ _ hl0
      have z5 : (wr.alloc (.cells #[.int .i64 kd, .int .i64 f, .int .i64 c, .int .i64 o, .int .i64 nn, .slice A8 n8 c8, .slice Af nf cf, .slice Ak nk ck] 52)).cell? ⟨wr.heap.size, 5, none⟩ = some (.slice A8 n8 c8) := cell_of_row _ wr.heap.size 5 _ _ _ hl0
      have z6 : (wr.alloc (.cells #[.int .i64 kd, .int .i64 f, .int .i64 c, .int .i64 o, .int .i64 nn, .slice A8 n8 c8, .slice Af nf cf, .slice Ak nk ck] 52)).cell? ⟨wr.heap.size, 6, none⟩ = some (.slice Af nf cf) := cell_of_row _ wr.heap.size 6 _ _ _ hl0
      have z7 : (wr.alloc (.cells #[.int .i64 kd, .int .i64 f, .int .i64 c, .int .i64 o, .int .i64 nn, .slice A8 n8 c8, .slice Af nf cf, .slice Ak nk ck] 52)).cell? ⟨wr.heap.size, 7, none⟩ = some (.slice Ak nk ck) := cell_of_row _ wr.heap.size 7 _ _ _ hl0
      clear hT hb0 HR hk hl0
      by_cases hk0 : kd = 0
      · subst kd
        go_wp2_with fail
        generalize (wr.alloc (.cells #[.int .i64 0, .int .i64 f, .int .i64 c, .int .i64 o, .int .i64 nn, .slice A8 n8 c8, .slice Af nf cf, .slice Ak nk ck] 52)) = v0 at *
        generalize wr.heap.size = z at *
        have hxr := xread_any HT.out.p f c o nn HI.out.1.2 HI.out.2.2.1.2 HI.out.2.2.2.2
        obtain ⟨R, hR⟩ : ∃ R, R = S.xread n f c o nn := ⟨_, rfl⟩
        rw [← hR] at hxr
        have HRR := Lib.hid hR
        clear hR
        refine hxr.mono ?_
        rintro e w3 ⟨v1, rfl, ⟨A1, m1, q1, rfl, _, _, hv1⟩, hp1, hf1⟩
        have HT1 := Lib.hid (HT.out.p_same hp1 hf1)
        have HV1 := Lib.hid hv1
        have hlt2 := Lib.hid (fun b (hb : F2 b) => HT.out.r.lt b hb)
        have y1 := (hf1.cell (p := ⟨z, 1, none⟩) (cell_lt z1) hz1.out).trans z1
        have y2 := (hf1.cell (p := ⟨z, 2, none⟩) (cell_lt z2) hz1.out).trans z2
        have y3 := (hf1.cell (p := ⟨z, 3, none⟩) (cell_lt z3) hz1.out).trans z3
        have y4 := (hf1.cell (p := ⟨z, 4, none⟩) (cell_lt z4) hz1.out).trans z4
        clear hp1 hf1 hv1 z1 z2 z3 z4 z5 z6 z7 hxr
        clear d0 d1 d2 d3 d4 d5 d6 d7
        have hxr := rxread_any HT1.out.r f c o nn HI.out.2.1.2 HI.out.2.2.1.2 HI.out.2.2.2.2
        rw [← HRR.out] at hxr
        go_wp2_with fail
        refine hxr.mono ?_
        rintro e w4 ⟨v2, rfl, ⟨A2, m2, q2, rfl, _, _, hv2⟩, hp2, hf2⟩
        have HT2 := Lib.hid (HT1.out.r_same hp2 hf2)
        have x1 := (hf2.cell (p := ⟨z, 1, none⟩) (cell_lt y1) hz2.out).trans y1
        have x2 := (hf2.cell (p := ⟨z, 2, none⟩) (cell_lt y2) hz2.out).trans y2
        have hby := bytes_any A1 A2 m1 q1 m2 q2 w4.heap.size _ _ w4 (rdv_has HV1.out hlt2.out hf2) (hv2 (fun _ => False) (fun _ h => h.elim)).has
        rw [eqL_self] at hby
        clear hp2 hf2 hv2 y1 y2 y3 y4 hxr
        have hq : (R.2.1 == R.2.1) = true := by simp
        generalize R.2.1 = er at *
        go_wp2_with (go_at_call 13; refine hby.mono ?_; rintro e w' ⟨rfl, rfl⟩)
        have HTd := Lib.hid (HT2.out.below ((Below.refl w4.heap.size w4).drew))
        have q1v : (xvalid n f c == xvalid n f c) = true := by simp
        have q1s : (xsize c == xsize c) = true := by simp
        obtain ⟨xv, hxv⟩ : ∃ xv, xv = xvalid n f c := ⟨_, rfl⟩
        obtain ⟨xz, hxz⟩ : ∃ xz, xz = xsize c := ⟨_, rfl⟩
        have ca := valid_any HTd.out.p f c HI.out.1.2
        rw [← hxv] at ca
        have HXV := Lib.hid hxv
        have HXZ := Lib.hid hxz
        have hdl : Hid (∀ T : Dsk, (dirtyZ n T.ca).length ≤ 1000000) := fun T => by have := dirtyZ_len n T.ca; have := HN.out.2; omega
        clear q1v q1s hxv hxz
        go_region_held3 (fun W => W.cell? ⟨z, 1, none⟩ = some (.int .i64 f) ∧ W.cell? ⟨z, 2, none⟩ = some (.int .i64 c)) (first | exact ⟨s1, s2⟩ | go_keep)
          (first
            | (go_at_call 32
               refine ca.mono ?_
               rintro e wA ⟨rfl, hbA⟩
               have s1 := (hbA.cell (p := ⟨z, 1, none⟩) (cell_lt (w := w4) x1)).trans x1
               have s2 := (hbA.cell (p := ⟨z, 2, none⟩) (cell_lt (w := w4) x2)).trans x2
               have HTA := Lib.hid (HTd.out.below hbA)
               have cb := rvalidx_any HTA.out.r f c HI.out.2.1.2
               rw [← HXV.out] at cb
               clear hbA)
            | (go_at_call 33
               refine cb.mono ?_
               rintro e wB ⟨rfl, hbB⟩
               have s3 := (hbB.cell (p := ⟨z, 1, none⟩) (cell_lt s1)).trans s1
               have s4 := (hbB.cell (p := ⟨z, 2, none⟩) (cell_lt s2)).trans s2
               have s1 := s3
               have s2 := s4
               have HTB := Lib.hid (HTA.out.below hbB)
               have cc := size_any wB f c
               rw [← HXZ.out] at cc
               clear hbB)
            | (go_at_call 34
               refine cc.mono ?_
               rintro e wC ⟨rfl, hbC⟩
               have s3 := (hbC.cell (p := ⟨z, 1, none⟩) (cell_lt s1)).trans s1
               have s4 := (hbC.cell (p := ⟨z, 2, none⟩) (cell_lt s2)).trans s2
               have s1 := s3
               have s2 := s4
               have HTC := Lib.hid (HTB.out.below hbC)
               have cd := rsizex_any wC f c
               rw [← HXZ.out] at cd
               clear hbC)
            | (go_at_call 35
               refine cd.mono ?_
               rintro e wD ⟨rfl, hbD⟩
               have s3 := (hbD.cell (p := ⟨z, 1, none⟩) (cell_lt s1)).trans s1
               have s4 := (hbD.cell (p := ⟨z, 2, none⟩) (cell_lt s2)).trans s2
               have s1 := s3
               have s2 := s4
               have HTD := Lib.hid (HTC.out.below hbD)
               clear hbD)
            | (go_at_call 36
               refine (off_any HTD.out.p).mono ?_
               rintro e w' ⟨rfl, rfl⟩)
            | (go_at_call 37
               refine (roff_any HTD.out.r).mono ?_
               rintro e w' ⟨rfl, rfl⟩)
            | (go_at_call 39
               refine (dirty_any HTD.out.p).mono ?_
               rintro e wE ⟨vE, rfl, hoE, hbE⟩
               obtain ⟨AE, kE, rfl, hdE, _⟩ := Has.of_own hoE
               have s3 := (hbE.cell (p := ⟨z, 1, none⟩) (cell_lt s1)).trans s1
               have s4 := (hbE.cell (p := ⟨z, 2, none⟩) (cell_lt s2)).trans s2
               have s1 := s3
               have s2 := s4
               have HTE := Lib.hid (HTD.out.below hbE)
               have HDE := Lib.hid hdE
               clear hoE hdE hbE)
            | (go_at_call 40
               refine (rdirty_any HTE.out.r).mono ?_
               rintro e wG ⟨vG, rfl, hoG, hbG⟩
               obtain ⟨AG, kG, rfl, hdG, _⟩ := Has.of_own hoG
               have s3 := (hbG.cell (p := ⟨z, 1, none⟩) (cell_lt s1)).trans s1
               have s4 := (hbG.cell (p := ⟨z, 2, none⟩) (cell_lt s2)).trans s2
               have s1 := s3
               have s2 := s4
               have HTG := Lib.hid (HTE.out.below hbG)
               have HDE' := Lib.hid ((HDE.out.below hbG).more hbG.size)
               have HDG := Lib.hid hdG
               clear hoG hdG hbG)
            | (go_at_call 38
               refine (ints_any AE AG _ kE _ kG wG.heap.size _ wG HDE'.out HDG.out (hdl.out _) (Nat.le_refl _)).mono ?_
               rintro e wH ⟨rfl, hbH⟩
               have s3 := (hbH.cell (p := ⟨z, 1, none⟩) (cell_lt s1)).trans s1
               have s4 := (hbH.cell (p := ⟨z, 2, none⟩) (cell_lt s2)).trans s2
               have s1 := s3
               have s2 := s4
               have HTH := Lib.hid (HTG.out.below hbH).step
               clear hbH))
        go_wp2_with fail
        go_roundw
        case rel => exact ⟨k + 1, by omega, by go_num, HTH⟩
        case measure => simp [RowKit.intOf]; omega
      · have hk0n : (kd == 0) = false := by simpa using hk0
        clear hk0
        by_cases hk1 : kd = 1
        · subst kd
          go_wp2_with fail
          generalize (wr.alloc (.cells #[.int .i64 1, .int .i64 f, .int .i64 c, .int .i64 o, .int .i64 nn, .slice A8 n8 c8, .slice Af nf cf, .slice Ak nk ck] 52)) = v0 at *
          generalize wr.heap.size = z at *
          refine (ownBytes_any A8 n8 c8 v0.heap.size l8 v0 (HT.out.has1 H8.out.1).has H8.out.2.2.2 (by have := HZ.out.1; omega) (Nat.le_refl _)).mono ?_
          rintro e wo ⟨⟨vo, rfl, hown⟩, hbo⟩
          obtain ⟨Ao, qo, rfl, _, hnq⟩ := Has.of_own hown
          have HTo := Lib.hid (HT.out.below hbo)
          have HAU := Lib.hid (hasF_own (F := fun b => F1 b ∨ F2 b) hown (fun b hb => hb.elim (HT.out.p.lt b) (HT.out.r.lt b)))
          have HQ := Lib.hid hnq
          have y1 := (hbo.cell (p := ⟨z, 1, none⟩) (cell_lt z1)).trans z1
          have y2 := (hbo.cell (p := ⟨z, 2, none⟩) (cell_lt z2)).trans z2
          have y3 := (hbo.cell (p := ⟨z, 3, none⟩) (cell_lt z3)).trans z3
          have y5 := (hbo.cell (p := ⟨z, 5, none⟩) (cell_lt z5)).trans z5
          clear hown hbo hnq z1 z2 z3 z4 z5 z6 z7
          clear d0 d1 d2 d3 d4 d5 d6 d7
          go_wp2_with fail
          have HTd := Lib.hid (HTo.out.below ((Below.refl wo.heap.size wo).drew))
          have HAd := Lib.hid (HAU.out.keep (Frm.of_below (F := fun b => F1 b ∨ F2 b) ((Below.refl wo.heap.size wo).drew)) (G := fun b => F1 b ∨ F2 b) fun _ h => .inl h)
          have hxw := xwrite_any HTd.out.p f c o Ao n8 qo l8 HI.out.1.2 HI.out.2.2.1.2 (by have := HZ.out.1; omega) HQ.out (HAd.out.less fun b hb => .inl hb)
          obtain ⟨R, hR⟩ : ∃ R, R = S.xwrite n f c o l8 := ⟨_, rfl⟩
          rw [← hR] at hxw
          have HRR := Lib.hid hR
          clear hR
          go_region_held3 (fun W => W.cell? ⟨z, 1, none⟩ = some (.int .i64 f) ∧ W.cell? ⟨z, 2, none⟩ = some (.int .i64 c) ∧ W.cell? ⟨z, 3, none⟩ = some (.int .i64 o) ∧ W.cell? ⟨z, 5, none⟩ = some (.slice A8 n8 c8)) (first | exact ⟨s1, s2, s3, s5⟩ | go_keep)
            (first
              | (go_at_call 30
                 refine hxw.mono ?_
                 rintro e wp ⟨rfl, hpp, hfp⟩
                 have s1 := (hfp.cell (p := ⟨z, 1, none⟩) (cell_lt (w := wo) y1) hz1.out).trans y1
                 have s2 := (hfp.cell (p := ⟨z, 2, none⟩) (cell_lt (w := wo) y2) hz1.out).trans y2
                 have s3 := (hfp.cell (p := ⟨z, 3, none⟩) (cell_lt (w := wo) y3) hz1.out).trans y3
                 have s5 := (hfp.cell (p := ⟨z, 5, none⟩) (cell_lt (w := wo) y5) hz1.out).trans y5
                 have HTp := Lib.hid (HTd.out.p_step hpp hfp)
                 have HAp := Lib.hid (HAd.out.keep (hfp.more fun b hb _ => .inl hb) (G := fun b => F1 b ∨ F2 b) fun _ h => .inl h)
                 have hyw := rxwrite_any HTp.out.r f c o A8 n8 c8 l8 HI.out.2.1.2 HI.out.2.2.1.2 (by have := HZ.out.1; omega) H8.out.2.1 (HTp.out.has2 H8.out.1)
                 rw [← HRR.out] at hyw
                 clear hpp hfp)
              | (go_at_call 31
                 refine hyw.mono ?_
                 rintro e wq ⟨rfl, hpq, hfq⟩
                 have t1 := (hfq.cell (p := ⟨z, 1, none⟩) (cell_lt s1) hz2.out).trans s1
                 have t2 := (hfq.cell (p := ⟨z, 2, none⟩) (cell_lt s2) hz2.out).trans s2
                 have t3 := (hfq.cell (p := ⟨z, 3, none⟩) (cell_lt s3) hz2.out).trans s3
                 have t5 := (hfq.cell (p := ⟨z, 5, none⟩) (cell_lt s5) hz2.out).trans s5
                 have s1 := t1
                 have s2 := t2
                 have s3 := t3
                 have s5 := t5
                 have HTq := Lib.hid (HTp.out.r_step hpq hfq)
                 have HAq := Lib.hid (HAp.out.keep (hfq.more fun b hb _ => .inr hb) (G := fun b => F1 b ∨ F2 b) fun _ h => .inl h)
                 clear hpq hfq)
              | (go_at_call 13
                 have hby := bytes_any Ao A8 n8 qo n8 c8 wq.heap.size _ _ wq HAq.out.has (HTq.out.has1 H8.out.1).has
                 rw [eqL_self] at hby
                 refine hby.mono ?_
                 rintro e w' ⟨rfl, rfl⟩))
          go_wp2_with fail
          have HTd := Lib.hid (HTq.out.below ((Below.refl wq.heap.size wq).drew))
          have q1v : (xvalid n f c == xvalid n f c) = true := by simp
          have q1s : (xsize c == xsize c) = true := by simp
          obtain ⟨xv, hxv⟩ : ∃ xv, xv = xvalid n f c := ⟨_, rfl⟩
          obtain ⟨xz, hxz⟩ : ∃ xz, xz = xsize c := ⟨_, rfl⟩
          have ca := valid_any HTd.out.p f c HI.out.1.2
          rw [← hxv] at ca
          have HXV := Lib.hid hxv
          have HXZ := Lib.hid hxz
          have hdl : Hid (∀ T : Dsk, (dirtyZ n T.ca).length ≤ 1000000) := fun T => by have := dirtyZ_len n T.ca; have := HN.out.2; omega
          clear q1v q1s hxv hxz
          go_region_held3 (fun W => W.cell? ⟨z, 1, none⟩ = some (.int .i64 f) ∧ W.cell? ⟨z, 2, none⟩ = some (.int .i64 c)) (first | exact ⟨s1, s2⟩ | go_keep)
            (first
              | (go_at_call 32
                 refine ca.mono ?_
                 rintro e wA ⟨rfl, hbA⟩
                 have s1 := (hbA.cell (p := ⟨z, 1, none⟩) (cell_lt (w := wq) s1)).trans s1
                 have s2 := (hbA.cell (p := ⟨z, 2, none⟩) (cell_lt (w := wq) s2)).trans s2
                 have HTA := Lib.hid (HTd.out.below hbA)
                 have cb := rvalidx_any HTA.out.r f c HI.out.2.1.2
                 rw [← HXV.out] at cb
                 clear hbA)
              | (go_at_call 33
                 refine cb.mono ?_
                 rintro e wB ⟨rfl, hbB⟩
                 have s3 := (hbB.cell (p := ⟨z, 1, none⟩) (cell_lt s1)).trans s1
                 have s4 := (hbB.cell (p := ⟨z, 2, none⟩) (cell_lt s2)).trans s2
                 have s1 := s3
                 have s2 := s4
                 have HTB := Lib.hid (HTA.out.below hbB)
                 have cc := size_any wB f c
                 rw [← HXZ.out] at cc
                 clear hbB)
              | (go_at_call 34
                 refine cc.mono ?_
                 rintro e wC ⟨rfl, hbC⟩
                 have s3 := (hbC.cell (p := ⟨z, 1, none⟩) (cell_lt s1)).trans s1
                 have s4 := (hbC.cell (p := ⟨z, 2, none⟩) (cell_lt s2)).trans s2
                 have s1 := s3
                 have s2 := s4
                 have HTC := Lib.hid (HTB.out.below hbC)
                 have cd := rsizex_any wC f c
                 rw [← HXZ.out] at cd
                 clear hbC)
              | (go_at_call 35
                 refine cd.mono ?_
                 rintro e wD ⟨rfl, hbD⟩
                 have s3 := (hbD.cell (p := ⟨z, 1, none⟩) (cell_lt s1)).trans s1
                 have s4 := (hbD.cell (p := ⟨z, 2, none⟩) (cell_lt s2)).trans s2
                 have s1 := s3
                 have s2 := s4
                 have HTD := Lib.hid (HTC.out.below hbD)
                 clear hbD)
              | (go_at_call 36
                 refine (off_any HTD.out.p).mono ?_
                 rintro e w' ⟨rfl, rfl⟩)
              | (go_at_call 37
                 refine (roff_any HTD.out.r).mono ?_
                 rintro e w' ⟨rfl, rfl⟩)
              | (go_at_call 39
                 refine (dirty_any HTD.out.p).mono ?_
                 rintro e wE ⟨vE, rfl, hoE, hbE⟩
                 obtain ⟨AE, kE, rfl, hdE, _⟩ := Has.of_own hoE
                 have s3 := (hbE.cell (p := ⟨z, 1, none⟩) (cell_lt s1)).trans s1
                 have s4 := (hbE.cell (p := ⟨z, 2, none⟩) (cell_lt s2)).trans s2
                 have s1 := s3
                 have s2 := s4
                 have HTE := Lib.hid (HTD.out.below hbE)
                 have HDE := Lib.hid hdE
                 clear hoE hdE hbE)
              | (go_at_call 40
                 refine (rdirty_any HTE.out.r).mono ?_
                 rintro e wG ⟨vG, rfl, hoG, hbG⟩
                 obtain ⟨AG, kG, rfl, hdG, _⟩ := Has.of_own hoG
                 have s3 := (hbG.cell (p := ⟨z, 1, none⟩) (cell_lt s1)).trans s1
                 have s4 := (hbG.cell (p := ⟨z, 2, none⟩) (cell_lt s2)).trans s2
                 have s1 := s3
                 have s2 := s4
                 have HTG := Lib.hid (HTE.out.below hbG)
                 have HDE' := Lib.hid ((HDE.out.below hbG).more hbG.size)
                 have HDG := Lib.hid hdG
                 clear hoG hdG hbG)
              | (go_at_call 38
                 refine (ints_any AE AG _ kE _ kG wG.heap.size _ wG HDE'.out HDG.out (hdl.out _) (Nat.le_refl _)).mono ?_
                 rintro e wH ⟨rfl, hbH⟩
                 have s3 := (hbH.cell (p := ⟨z, 1, none⟩) (cell_lt s1)).trans s1
                 have s4 := (hbH.cell (p := ⟨z, 2, none⟩) (cell_lt s2)).trans s2
                 have s1 := s3
                 have s2 := s4
                 have HTH := Lib.hid (HTG.out.below hbH).step
                 clear hbH))
          go_wp2_with fail
          go_roundw
          case rel => exact ⟨k + 1, by omega, by go_num, HTH⟩
          case measure => simp [RowKit.intOf]; omega
        · have hk1n : (kd == 1) = false := by simpa using hk1
          clear hk1
          by_cases hk2 : kd = 2
          · subst kd
            go_wp2_with fail
            generalize (wr.alloc (.cells #[.int .i64 2, .int .i64 f, .int .i64 c, .int .i64 o, .int .i64 nn, .slice A8 n8 c8, .slice Af nf cf, .slice Ak nk ck] 52)) = v0 at *
            generalize wr.heap.size = z at *
            refine (sync_any HT.out.p).mono ?_
            rintro e w3 ⟨rfl, hp1, hf1⟩
            have HT1 := Lib.hid (HT.out.p_same hp1 hf1)
            have y1 := (hf1.cell (p := ⟨z, 1, none⟩) (cell_lt z1) hz1.out).trans z1
            have y2 := (hf1.cell (p := ⟨z, 2, none⟩) (cell_lt z2) hz1.out).trans z2
            clear hp1 hf1 z1 z2 z3 z4 z5 z6 z7
            clear d0 d1 d2 d3 d4 d5 d6 d7
            go_wp2_with fail
            refine (rsync_any HT1.out.r).mono ?_
            rintro e w4 ⟨rfl, hp2, hf2⟩
            have HT2 := Lib.hid (HT1.out.r_same hp2 hf2)
            have x1 := (hf2.cell (p := ⟨z, 1, none⟩) (cell_lt y1) hz2.out).trans y1
            have x2 := (hf2.cell (p := ⟨z, 2, none⟩) (cell_lt y2) hz2.out).trans y2
            clear hp2 hf2 y1 y2
            have hq : (S.ans true == S.ans true) = true := by simp
            generalize S.ans true = er at *
            go_wp2_with fail
            have HTd := Lib.hid (HT2.out.below ((Below.refl w4.heap.size w4).drew))
            have q1v : (xvalid n f c == xvalid n f c) = true := by simp
            have q1s : (xsize c == xsize c) = true := by simp
            obtain ⟨xv, hxv⟩ : ∃ xv, xv = xvalid n f c := ⟨_, rfl⟩
            obtain ⟨xz, hxz⟩ : ∃ xz, xz = xsize c := ⟨_, rfl⟩
            have ca := valid_any HTd.out.p f c HI.out.1.2
            rw [← hxv] at ca
            have HXV := Lib.hid hxv
            have HXZ := Lib.hid hxz
            have hdl : Hid (∀ T : Dsk, (dirtyZ n T.ca).length ≤ 1000000) := fun T => by have := dirtyZ_len n T.ca; have := HN.out.2; omega
            clear q1v q1s hxv hxz
            go_region_held3 (fun W => W.cell? ⟨z, 1, none⟩ = some (.int .i64 f) ∧ W.cell? ⟨z, 2, none⟩ = some (.int .i64 c)) (first | exact ⟨s1, s2⟩ | go_keep)
              (first
                | (go_at_call 32
                   refine ca.mono ?_
                   rintro e wA ⟨rfl, hbA⟩
                   have s1 := (hbA.cell (p := ⟨z, 1, none⟩) (cell_lt (w := w4) x1)).trans x1
                   have s2 := (hbA.cell (p := ⟨z, 2, none⟩) (cell_lt (w := w4) x2)).trans x2
                   have HTA := Lib.hid (HTd.out.below hbA)
                   have cb := rvalidx_any HTA.out.r f c HI.out.2.1.2
                   rw [← HXV.out] at cb
                   clear hbA)
                | (go_at_call 33
                   refine cb.mono ?_
                   rintro e wB ⟨rfl, hbB⟩
                   have s3 := (hbB.cell (p := ⟨z, 1, none⟩) (cell_lt s1)).trans s1
                   have s4 := (hbB.cell (p := ⟨z, 2, none⟩) (cell_lt s2)).trans s2
                   have s1 := s3
                   have s2 := s4
                   have HTB := Lib.hid (HTA.out.below hbB)
                   have cc := size_any wB f c
                   rw [← HXZ.out] at cc
                   clear hbB)
                | (go_at_call 34
                   refine cc.mono ?_
                   rintro e wC ⟨rfl, hbC⟩
                   have s3 := (hbC.cell (p := ⟨z, 1, none⟩) (cell_lt s1)).trans s1
                   have s4 := (hbC.cell (p := ⟨z, 2, none⟩) (cell_lt s2)).trans s2
                   have s1 := s3
                   have s2 := s4
                   have HTC := Lib.hid (HTB.out.below hbC)
                   have cd := rsizex_any wC f c
                   rw [← HXZ.out] at cd
                   clear hbC)
                | (go_at_call 35
                   refine cd.mono ?_
                   rintro e wD ⟨rfl, hbD⟩
                   have s3 := (hbD.cell (p := ⟨z, 1, none⟩) (cell_lt s1)).trans s1
                   have s4 := (hbD.cell (p := ⟨z, 2, none⟩) (cell_lt s2)).trans s2
                   have s1 := s3
                   have s2 := s4
                   have HTD := Lib.hid (HTC.out.below hbD)
                   clear hbD)
                | (go_at_call 36
                   refine (off_any HTD.out.p).mono ?_
                   rintro e w' ⟨rfl, rfl⟩)
                | (go_at_call 37
                   refine (roff_any HTD.out.r).mono ?_
                   rintro e w' ⟨rfl, rfl⟩)
                | (go_at_call 39
                   refine (dirty_any HTD.out.p).mono ?_
                   rintro e wE ⟨vE, rfl, hoE, hbE⟩
                   obtain ⟨AE, kE, rfl, hdE, _⟩ := Has.of_own hoE
                   have s3 := (hbE.cell (p := ⟨z, 1, none⟩) (cell_lt s1)).trans s1
                   have s4 := (hbE.cell (p := ⟨z, 2, none⟩) (cell_lt s2)).trans s2
                   have s1 := s3
                   have s2 := s4
                   have HTE := Lib.hid (HTD.out.below hbE)
                   have HDE := Lib.hid hdE
                   clear hoE hdE hbE)
                | (go_at_call 40
                   refine (rdirty_any HTE.out.r).mono ?_
                   rintro e wG ⟨vG, rfl, hoG, hbG⟩
                   obtain ⟨AG, kG, rfl, hdG, _⟩ := Has.of_own hoG
                   have s3 := (hbG.cell (p := ⟨z, 1, none⟩) (cell_lt s1)).trans s1
                   have s4 := (hbG.cell (p := ⟨z, 2, none⟩) (cell_lt s2)).trans s2
                   have s1 := s3
                   have s2 := s4
                   have HTG := Lib.hid (HTE.out.below hbG)
                   have HDE' := Lib.hid ((HDE.out.below hbG).more hbG.size)
                   have HDG := Lib.hid hdG
                   clear hoG hdG hbG)
                | (go_at_call 38
                   refine (ints_any AE AG _ kE _ kG wG.heap.size _ wG HDE'.out HDG.out (hdl.out _) (Nat.le_refl _)).mono ?_
                   rintro e wH ⟨rfl, hbH⟩
                   have s3 := (hbH.cell (p := ⟨z, 1, none⟩) (cell_lt s1)).trans s1
                   have s4 := (hbH.cell (p := ⟨z, 2, none⟩) (cell_lt s2)).trans s2
                   have s1 := s3
                   have s2 := s4
                   have HTH := Lib.hid (HTG.out.below hbH).step
                   clear hbH))
            go_wp2_with fail
            go_roundw
            case rel => exact ⟨k + 1, by omega, by go_num, HTH⟩
            case measure => simp [RowKit.intOf]; omega
          · have hk2n : (kd == 2) = false := by simpa using hk2
            clear hk2
            by_cases hk3 : kd = 3
            · subst kd
              go_wp2_with fail
              generalize (wr.alloc (.cells #[.int .i64 3, .int .i64 f, .int .i64 c, .int .i64 o, .int .i64 nn, .slice A8 n8 c8, .slice Af nf cf, .slice Ak nk ck] 52)) = v0 at *
              generalize wr.heap.size = z at *
              have HTb := Lib.hid (HT.out.below ((Below.refl v0.heap.size v0).drew))
              obtain ⟨er, her⟩ : ∃ er : Int, (if armOk fs then (0 : Int) else 1) = er := ⟨_, rfl⟩
              obtain ⟨S3, hS3⟩ : ∃ S3 : Dsk, (if armOk fs then S.armed fs else S) = S3 := ⟨_, rfl⟩
              have harm := arm_any HTb.out.p Af nf cf fs (HTb.out.prs1 HF.out.1) (by have := HZ.out.2.1; omega) HF.out.2
              rw [her, hS3] at harm
              have her := Lib.hid her
              have hS3 := Lib.hid hS3
              clear z3 z4 z5 z7
              clear d0 d1 d2 d3 d4 d5 d6 d7
              go_region_held3 (fun W => W.cell? ⟨z, 6, none⟩ = some (.slice Af nf cf) ∧ W.cell? ⟨z, 1, none⟩ = some (.int .i64 f) ∧ W.cell? ⟨z, 2, none⟩ = some (.int .i64 c)) (first | exact ⟨s6, s1, s2⟩ | go_keep)
                (first
                  | (go_at_call 19
                     refine harm.mono ?_
                     rintro e wp ⟨rfl, hpp, hfp⟩
                     have s1 := (hfp.cell (p := ⟨z, 1, none⟩) (cell_lt (w := v0) z1) hz1.out).trans z1
                     have s2 := (hfp.cell (p := ⟨z, 2, none⟩) (cell_lt (w := v0) z2) hz1.out).trans z2
                     have s6 := (hfp.cell (p := ⟨z, 6, none⟩) (cell_lt (w := v0) z6) hz1.out).trans z6
                     have HTp := Lib.hid (HTb.out.p_step hpp hfp)
                     clear hpp hfp)
                  | (go_at_call 20
                     have hra := rarm_any HTp.out.r Af nf cf fs (HTp.out.prs2 HF.out.1) (by have := HZ.out.2.1; omega) HF.out.2
                     rw [her.out, hS3.out] at hra
                     refine hra.mono ?_
                     rintro e wq ⟨rfl, hpq, hfq⟩
                     have t1 := (hfq.cell (p := ⟨z, 1, none⟩) (cell_lt s1) hz2.out).trans s1
                     have t2 := (hfq.cell (p := ⟨z, 2, none⟩) (cell_lt s2) hz2.out).trans s2
                     have t6 := (hfq.cell (p := ⟨z, 6, none⟩) (cell_lt s6) hz2.out).trans s6
                     have s1 := t1
                     have s2 := t2
                     have s6 := t6
                     have HTq := Lib.hid (HTp.out.r_step hpq hfq)
                     clear hpq hfq))
              go_wp2_with fail
              have HTd := Lib.hid (HTq.out.below ((Below.refl wq.heap.size wq).drew))
              have q1v : (xvalid n f c == xvalid n f c) = true := by simp
              have q1s : (xsize c == xsize c) = true := by simp
              obtain ⟨xv, hxv⟩ : ∃ xv, xv = xvalid n f c := ⟨_, rfl⟩
              obtain ⟨xz, hxz⟩ : ∃ xz, xz = xsize c := ⟨_, rfl⟩
              have ca := valid_any HTd.out.p f c HI.out.1.2
              rw [← hxv] at ca
              have HXV := Lib.hid hxv
              have HXZ := Lib.hid hxz
              have hdl : Hid (∀ T : Dsk, (dirtyZ n T.ca).length ≤ 1000000) := fun T => by have := dirtyZ_len n T.ca; have := HN.out.2; omega
              clear q1v q1s hxv hxz
              go_region_held3 (fun W => W.cell? ⟨z, 1, none⟩ = some (.int .i64 f) ∧ W.cell? ⟨z, 2, none⟩ = some (.int .i64 c)) (first | exact ⟨s1, s2⟩ | go_keep)
                (first
                  | (go_at_call 32
                     refine ca.mono ?_
                     rintro e wA ⟨rfl, hbA⟩
                     have s1 := (hbA.cell (p := ⟨z, 1, none⟩) (cell_lt (w := wq) s1)).trans s1
                     have s2 := (hbA.cell (p := ⟨z, 2, none⟩) (cell_lt (w := wq) s2)).trans s2
                     have HTA := Lib.hid (HTd.out.below hbA)
                     have cb := rvalidx_any HTA.out.r f c HI.out.2.1.2
                     rw [← HXV.out] at cb
                     clear hbA)
                  | (go_at_call 33
                     refine cb.mono ?_
                     rintro e wB ⟨rfl, hbB⟩
                     have s3 := (hbB.cell (p := ⟨z, 1, none⟩) (cell_lt s1)).trans s1
                     have s4 := (hbB.cell (p := ⟨z, 2, none⟩) (cell_lt s2)).trans s2
                     have s1 := s3
                     have s2 := s4
                     have HTB := Lib.hid (HTA.out.below hbB)
                     have cc := size_any wB f c
                     rw [← HXZ.out] at cc
                     clear hbB)
                  | (go_at_call 34
                     refine cc.mono ?_
                     rintro e wC ⟨rfl, hbC⟩
                     have s3 := (hbC.cell (p := ⟨z, 1, none⟩) (cell_lt s1)).trans s1
                     have s4 := (hbC.cell (p := ⟨z, 2, none⟩) (cell_lt s2)).trans s2
                     have s1 := s3
                     have s2 := s4
                     have HTC := Lib.hid (HTB.out.below hbC)
                     have cd := rsizex_any wC f c
                     rw [← HXZ.out] at cd
                     clear hbC)
                  | (go_at_call 35
                     refine cd.mono ?_
                     rintro e wD ⟨rfl, hbD⟩
                     have s3 := (hbD.cell (p := ⟨z, 1, none⟩) (cell_lt s1)).trans s1
                     have s4 := (hbD.cell (p := ⟨z, 2, none⟩) (cell_lt s2)).trans s2
                     have s1 := s3
                     have s2 := s4
                     have HTD := Lib.hid (HTC.out.below hbD)
                     clear hbD)
                  | (go_at_call 36
                     refine (off_any HTD.out.p).mono ?_
                     rintro e w' ⟨rfl, rfl⟩)
                  | (go_at_call 37
                     refine (roff_any HTD.out.r).mono ?_
                     rintro e w' ⟨rfl, rfl⟩)
                  | (go_at_call 39
                     refine (dirty_any HTD.out.p).mono ?_
                     rintro e wE ⟨vE, rfl, hoE, hbE⟩
                     obtain ⟨AE, kE, rfl, hdE, _⟩ := Has.of_own hoE
                     have s3 := (hbE.cell (p := ⟨z, 1, none⟩) (cell_lt s1)).trans s1
                     have s4 := (hbE.cell (p := ⟨z, 2, none⟩) (cell_lt s2)).trans s2
                     have s1 := s3
                     have s2 := s4
                     have HTE := Lib.hid (HTD.out.below hbE)
                     have HDE := Lib.hid hdE
                     clear hoE hdE hbE)
                  | (go_at_call 40
                     refine (rdirty_any HTE.out.r).mono ?_
                     rintro e wG ⟨vG, rfl, hoG, hbG⟩
                     obtain ⟨AG, kG, rfl, hdG, _⟩ := Has.of_own hoG
                     have s3 := (hbG.cell (p := ⟨z, 1, none⟩) (cell_lt s1)).trans s1
                     have s4 := (hbG.cell (p := ⟨z, 2, none⟩) (cell_lt s2)).trans s2
                     have s1 := s3
                     have s2 := s4
                     have HTG := Lib.hid (HTE.out.below hbG)
                     have HDE' := Lib.hid ((HDE.out.below hbG).more hbG.size)
                     have HDG := Lib.hid hdG
                     clear hoG hdG hbG)
                  | (go_at_call 38
                     refine (ints_any AE AG _ kE _ kG wG.heap.size _ wG HDE'.out HDG.out (hdl.out _) (Nat.le_refl _)).mono ?_
                     rintro e wH ⟨rfl, hbH⟩
                     have s3 := (hbH.cell (p := ⟨z, 1, none⟩) (cell_lt s1)).trans s1
                     have s4 := (hbH.cell (p := ⟨z, 2, none⟩) (cell_lt s2)).trans s2
                     have s1 := s3
                     have s2 := s4
                     have HTH := Lib.hid (HTG.out.below hbH).step
                     clear hbH))
              go_wp2_with fail
              go_roundw
              case rel => exact ⟨k + 1, by omega, by go_num, HTH⟩
              case measure => simp [RowKit.intOf]; omega
            · have hk3n : (kd == 3) = false := by simpa using hk3
              clear hk3
              go_wp2_with fail
              generalize (wr.alloc (.cells #[.int .i64 kd, .int .i64 f, .int .i64 c, .int .i64 o, .int .i64 nn, .slice A8 n8 c8, .slice Af nf cf, .slice Ak nk ck] 52)) = v0 at *
              generalize wr.heap.size = z at *
              refine (restart_any HT.out.p Ak nk ck ks (HT.out.prs1 HK.out) (by have := HZ.out.2.2; omega)).mono ?_
              rintro e w3 ⟨rfl, hp1, hf1⟩
              have HT1 := Lib.hid (HT.out.p_same hp1 hf1)
              have y1 := (hf1.cell (p := ⟨z, 1, none⟩) (cell_lt z1) hz1.out).trans z1
              have y2 := (hf1.cell (p := ⟨z, 2, none⟩) (cell_lt z2) hz1.out).trans z2
              have y7 := (hf1.cell (p := ⟨z, 7, none⟩) (cell_lt z7) hz1.out).trans z7
              clear hp1 hf1 z1 z2 z3 z4 z5 z6 z7
              clear d0 d1 d2 d3 d4 d5 d6 d7
              go_wp2_with fail
              refine (rrestart_any HT1.out.r Ak nk ck ks (HT1.out.prs2 HK.out) (by have := HZ.out.2.2; omega)).mono ?_
              rintro e w4 ⟨rfl, hp2, hf2⟩
              have HT2 := Lib.hid (HT1.out.r_step hp2 hf2)
              have x1 := (hf2.cell (p := ⟨z, 1, none⟩) (cell_lt y1) hz2.out).trans y1
              have x2 := (hf2.cell (p := ⟨z, 2, none⟩) (cell_lt y2) hz2.out).trans y2
              clear hp2 hf2 y1 y2 y7
              go_wp2_with fail
              have HTd := Lib.hid (HT2.out.below ((Below.refl w4.heap.size w4).drew))
              have q1v : (xvalid n f c == xvalid n f c) = true := by simp
              have q1s : (xsize c == xsize c) = true := by simp
              obtain ⟨xv, hxv⟩ : ∃ xv, xv = xvalid n f c := ⟨_, rfl⟩
              obtain ⟨xz, hxz⟩ : ∃ xz, xz = xsize c := ⟨_, rfl⟩
              have ca := valid_any HTd.out.p f c HI.out.1.2
              rw [← hxv] at ca
              have HXV := Lib.hid hxv
              have HXZ := Lib.hid hxz
              have hdl : Hid (∀ T : Dsk, (dirtyZ n T.ca).length ≤ 1000000) := fun T => by have := dirtyZ_len n T.ca; have := HN.out.2; omega
              clear q1v q1s hxv hxz
              go_region_held3 (fun W => W.cell? ⟨z, 1, none⟩ = some (.int .i64 f) ∧ W.cell? ⟨z, 2, none⟩ = some (.int .i64 c)) (first | exact ⟨s1, s2⟩ | go_keep)
                (first
                  | (go_at_call 32
                     refine ca.mono ?_
                     rintro e wA ⟨rfl, hbA⟩
                     have s1 := (hbA.cell (p := ⟨z, 1, none⟩) (cell_lt (w := w4) x1)).trans x1
                     have s2 := (hbA.cell (p := ⟨z, 2, none⟩) (cell_lt (w := w4) x2)).trans x2
                     have HTA := Lib.hid (HTd.out.below hbA)
                     have cb := rvalidx_any HTA.out.r f c HI.out.2.1.2
                     rw [← HXV.out] at cb
                     clear hbA)
                  | (go_at_call 33
                     refine cb.mono ?_
                     rintro e wB ⟨rfl, hbB⟩
                     have s3 := (hbB.cell (p := ⟨z, 1, none⟩) (cell_lt s1)).trans s1
                     have s4 := (hbB.cell (p := ⟨z, 2, none⟩) (cell_lt s2)).trans s2
                     have s1 := s3
                     have s2 := s4
                     have HTB := Lib.hid (HTA.out.below hbB)
                     have cc := size_any wB f c
                     rw [← HXZ.out] at cc
                     clear hbB)
                  | (go_at_call 34
                     refine cc.mono ?_
                     rintro e wC ⟨rfl, hbC⟩
                     have s3 := (hbC.cell (p := ⟨z, 1, none⟩) (cell_lt s1)).trans s1
                     have s4 := (hbC.cell (p := ⟨z, 2, none⟩) (cell_lt s2)).trans s2
                     have s1 := s3
                     have s2 := s4
                     have HTC := Lib.hid (HTB.out.below hbC)
                     have cd := rsizex_any wC f c
                     rw [← HXZ.out] at cd
                     clear hbC)
                  | (go_at_call 35
                     refine cd.mono ?_
                     rintro e wD ⟨rfl, hbD⟩
                     have s3 := (hbD.cell (p := ⟨z, 1, none⟩) (cell_lt s1)).trans s1
                     have s4 := (hbD.cell (p := ⟨z, 2, none⟩) (cell_lt s2)).trans s2
                     have s1 := s3
                     have s2 := s4
                     have HTD := Lib.hid (HTC.out.below hbD)
                     clear hbD)
                  | (go_at_call 36
                     refine (off_any HTD.out.p).mono ?_
                     rintro e w' ⟨rfl, rfl⟩)
                  | (go_at_call 37
                     refine (roff_any HTD.out.r).mono ?_
                     rintro e w' ⟨rfl, rfl⟩)
                  | (go_at_call 39
                     refine (dirty_any HTD.out.p).mono ?_
                     rintro e wE ⟨vE, rfl, hoE, hbE⟩
                     obtain ⟨AE, kE, rfl, hdE, _⟩ := Has.of_own hoE
                     have s3 := (hbE.cell (p := ⟨z, 1, none⟩) (cell_lt s1)).trans s1
                     have s4 := (hbE.cell (p := ⟨z, 2, none⟩) (cell_lt s2)).trans s2
                     have s1 := s3
                     have s2 := s4
                     have HTE := Lib.hid (HTD.out.below hbE)
                     have HDE := Lib.hid hdE
                     clear hoE hdE hbE)
                  | (go_at_call 40
                     refine (rdirty_any HTE.out.r).mono ?_
                     rintro e wG ⟨vG, rfl, hoG, hbG⟩
                     obtain ⟨AG, kG, rfl, hdG, _⟩ := Has.of_own hoG
                     have s3 := (hbG.cell (p := ⟨z, 1, none⟩) (cell_lt s1)).trans s1
                     have s4 := (hbG.cell (p := ⟨z, 2, none⟩) (cell_lt s2)).trans s2
                     have s1 := s3
                     have s2 := s4
                     have HTG := Lib.hid (HTE.out.below hbG)
                     have HDE' := Lib.hid ((HDE.out.below hbG).more hbG.size)
                     have HDG := Lib.hid hdG
                     clear hoG hdG hbG)
                  | (go_at_call 38
                     refine (ints_any AE AG _ kE _ kG wG.heap.size _ wG HDE'.out HDG.out (hdl.out _) (Nat.le_refl _)).mono ?_
                     rintro e wH ⟨rfl, hbH⟩
                     have s3 := (hbH.cell (p := ⟨z, 1, none⟩) (cell_lt s1)).trans s1
                     have s4 := (hbH.cell (p := ⟨z, 2, none⟩) (cell_lt s2)).trans s2
                     have s1 := s3
                     have s2 := s4
                     have HTH := Lib.hid (HTG.out.below hbH).step
                     clear hbH))
              go_wp2_with fail
              go_roundw
              case rel => exact ⟨k + 1, by omega, by go_num, HTH⟩
              case measure => simp [RowKit.intOf]; omega
    · have hd : decide ((k : Int) < (m : Int)) = false := by simpa using hlt
      obtain ⟨F1, F2, S, hT⟩ := HR.out
      have HT := Lib.hid hT
      obtain ⟨L, hL⟩ : ∃ L, L = 64 * n := ⟨_, rfl⟩
      have him := image_L hT.p hL
      have hfl : Hid ((flat n S.st).length = L) := by show _ = _; rw [hL]; exact flat_length hT.p.ok.st
      clear hT hL
      go_wp2_with fail
      refine him.mono ?_
      rintro e w3 ⟨gi, rfl, _, hrow, hb3⟩
      have hHi := has_of_row hrow hfl.out
      have HT3 := Lib.hid (HT.out.below hb3)
      clear him hrow hb3
      go_wp2_with fail
      refine (rimage_any HT3.out.r).mono ?_
      rintro e w4 ⟨v4, L4, rfl, hL4, ho4, hb4⟩
      obtain ⟨A4, q4, rfl, hh4, _⟩ := Has.of_own ho4
      have hby := bytes_any (some ⟨gi, 0, none⟩) A4 L L L4 q4 w4.heap.size _ _ w4 ((hHi.below hb4).more hb4.size) hh4
      rw [eqL_self] at hby
      have HB := Lib.hid (HT3.out.below hb4).bel
      clear ho4 hh4 hb4 hHi hL4
      go_wp2_with fail
      refine hby.mono ?_
      rintro e w' ⟨rfl, rfl⟩
      go_wp2_with fail
      refine (awake6_any _).mono ?_
      rintro e w9 hy
      have HY := Lib.hid (yes_of HB.out hy)
      obtain ⟨rfl, _⟩ := hy
      go_wp2_with fail
      go_ret
      exact HY.out

set_option maxRecDepth 20000 in
set_option maxHeartbeats 1600000 in
theorem walkXSpec (n : Int) (A : Option Addr) (m c : Nat) (w : World) (_ : (Lit.int .i64 n).wf = true) (hO : ∃ os, XOpsIn w A m os ∧ m ≤ maxLen) :
    Calls Try.prog 4 #[.int .i64 n, .slice A m c] w (Yes w) := by
  obtain ⟨os, hO, _⟩ := hO
  have hs := xsmall_any A m c os w hO
  by_cases h1 : n < 1
  · have g1 : decide (n < 1) = true := by simpa using h1
    clear hO hs
    go_enter Try.func4, Try.ntmps4
    go_wp2_with (go_at_call 27; refine (awake6_any _).mono ?_; rintro e w2 ⟨rfl, hb2⟩)
    go_ret
    exact ⟨rfl, hb2⟩
  · by_cases h2 : 60 < n
    · have g1 : decide (n < 1) = false := by simpa using h1
      have g2 : decide (60 < n) = true := by simpa using h2
      clear hO hs
      go_enter Try.func4, Try.ntmps4
      go_wp2_with (go_at_call 27; refine (awake6_any _).mono ?_; rintro e w2 ⟨rfl, hb2⟩)
      go_ret
      exact ⟨rfl, hb2⟩
    · obtain ⟨k, rfl⟩ : ∃ k : Nat, n = k := ⟨n.toNat, by omega⟩
      exact xspec_good k A m c os w (by omega) (by omega) hO hs

end Go.Proofs.Ytbknpfngboioeaa
