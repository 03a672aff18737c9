/-
The walk of WalMatchesSpec.
-/
import Derived.Test.YtngomoolmncbaaaGreatB23
import Derived.Test.YtngomoolmncbaaaGreatB19
namespace Go.Proofs.YtngomoolmncbaaaGreat
section
open Go.RowKit

theorem WOpsIn.below {w w1 : World} {A : Option Addr} {n : Nat} {os : List WOpV} (h : WOpsIn w A n os) (hb : Below w.heap.size w w1) : WOpsIn w1 A n os :=
  ⟨h.1, fun h0 => by
    obtain ⟨b, off, e, hl, hc⟩ := h.2 h0
    refine ⟨b, off, e, Nat.lt_of_lt_of_le hl hb.size, fun j hj => ?_⟩
    obtain ⟨hi, c0, c1, c2, c3⟩ := hc j hj
    have hk : ∀ (o : Nat) (v : Value), w.cell? ⟨b, o, none⟩ = some v → w1.cell? ⟨b, o, none⟩ = some v := fun o v hv => (hb.cell (p := ⟨b, o, none⟩) hl).trans hv
    refine ⟨⟨hi.bk, ⟨(hi.a8.1.below hb).more hb.size, hi.a8.2⟩, ⟨hi.fl.1.keep (Frm.of_below hb) (fun b hb => hb.elim), hi.fl.2⟩, ⟨hi.p.1.keep (Frm.of_below hb) (fun b hb => hb.elim), hi.p.2⟩⟩, hk _ _ c0, hk _ _ c1, hk _ _ c2, hk _ _ c3⟩⟩
def WStep (w x : World) (a1 a2 : Nat) (lv mv : Value) : Prop := ∃ F1 F2 S, Two w x F1 F2 a1 a2 30 S S ∧ Both w x F1 F2 a1 a2 30 lv mv
theorem two_start8 {w w1 w2 : World} {a1 a2 n : Nat} {S : Dsk} (h1 : PD w1 (newF w w1) a1 n S) (b1 : Below w.heap.size w w1) (h2 : RD w2 (newF w1 w2) a2 n S) (b2 : Below w1.heap.size w1 w2) : Two w w2 (newF w w1) (newF w1 w2) a1 a2 n S S :=
  ⟨h1.below b2, h2, fun b hb hb2 => by have := hb.2; have := hb2.1; omega, fun b hb => hb.1, fun b hb => by have := hb.1; have := b1.size; omega, b1.trans (b2.mono b1.size)⟩
theorem lgs_step {w x y z : World} {F1 F2 G1 G2 : Nat → Prop} {a1 a2 n b1 b2 : Nat} {L L' : Lg} (h : Lgs w x F1 F2 a1 a2 n b1 b2 L) (hp : PL y b1 a1 L') (hr : RL y b2 a2 L') (hok : L'.Ok n) (hG1 : ∀ b, G1 b → F1 b ∨ x.heap.size ≤ b) (hG2 : ∀ b, G2 b → F2 b ∨ z.heap.size ≤ b) (hz : x.heap.size ≤ z.heap.size) : Lgs w y G1 G2 a1 a2 n b1 b2 L' := by
  have g1 : ∀ b, b < x.heap.size → ¬ F1 b → ¬ G1 b := fun b hb hn hg => (hG1 b hg).elim hn fun g => Nat.lt_irrefl _ (Nat.lt_of_lt_of_le hb g)
  have g2 : ∀ b, b < x.heap.size → ¬ F2 b → ¬ G2 b := fun b hb hn hg => (hG2 b hg).elim hn fun g => Nat.lt_irrefl _ (Nat.lt_of_lt_of_le hb (Nat.le_trans hz g))
  exact ⟨hp, hr, hok, g1 _ h.p.lt h.n11, g2 _ h.p.lt h.n21, g1 _ h.r.lt h.n12, g2 _ h.r.lt h.n22, h.ne, h.lo1, h.lo2⟩
theorem wopen_len {S : Dsk} {n : Nat} {f c : Int} {e : W32} (hok : S.Ok n) : (S.wopen n f c e).ps.length ≤ 262144 := by
  cases hv : xvalid n f c with
  | false => rw [wopen_1 hv]; exact Nat.zero_le _
  | true =>
    by_cases h2 : (S.xread n f c 0 (xsize c)).2.1 = 0
    · have hl := xread_len hok hv h2
      have hp := xvalid_parts hv
      have hn := hok.n4
      rw [wopen_3 hv h2]
      obtain ⟨l, hle⟩ : ∃ l, l = (S.xread n f c 0 (xsize c)).2.2 := ⟨_, rfl⟩
      rw [← hle] at hl ⊢
      have h1 := (scanB_end (l.length + 1) l e 0).1
      have h3 := scanB_count (l.length + 1) l e 0
      generalize scanB (l.length + 1) l e 0 = K at *
      generalize (S.xread n f c 0 (xsize c)).1 = T
      by_cases h4 : (T.wclean n f c l K.2).2 = 0
      · rw [woB_ok h4]
        by_cases h5 : (T.wclean n f c l K.2).1.ans true = 0
        · rw [woC_ok h5]
          show K.1.length ≤ _
          omega
        · rw [woC_bad h5]; exact Nat.zero_le _
      · rw [woB_bad h4]; exact Nat.zero_le _
    · rw [wopen_2 hv h2]; exact Nat.zero_le _

set_option maxRecDepth 20000 in
set_option maxHeartbeats 51200000 in
theorem wspec_good (f c : Int) (ep : W32) (A : Option Addr) (m cap : Nat) (os : List WOpV) (w : World) (hf : I64 f) (hc : I64 c) (hO : WOpsIn w A m os) :
    Calls Tryz.prog 3 #[.agg #[.int .i64 f, .int .i64 c], .int .u32 (nv ep), .slice A m cap] w (Yes w) := by
  have hb0 : Below w.heap.size w (w.alloc (.cells #[.int .i64 f, .int .i64 c] 23)) := (Below.refl _ _).alloc (Nat.le_refl _) _
  have hl := heap_alloc_last w (.cells #[.int .i64 f, .int .i64 c] 23)
  have hO0 := hO.below hb0
  have hzl : w.heap.size < (w.alloc (.cells #[.int .i64 f, .int .i64 c] 23)).heap.size := lt_of_some hl
  have HB0 := Lib.hid (And.intro hb0 (Nat.le_of_lt hzl))
  have HZ0 := Lib.hid (cell_of_row _ w.heap.size 0 _ _ _ hl)
  have HZ1 := Lib.hid (cell_of_row _ w.heap.size 1 _ _ _ hl)
  have HZL := Lib.hid hzl
  have HO := Lib.hid hO0
  have HF := Lib.hid hf
  have HC := Lib.hid hc
  clear hb0 hl hO hO0 hf hc hzl
  go_enter Tryz.func3, Tryz.ntmps3
  go_wp2_with fail
  have HYES : Hid (∀ x, Below (w.alloc (.cells #[.int .i64 f, .int .i64 c] 23)).heap.size (w.alloc (.cells #[.int .i64 f, .int .i64 c] 23)) x → Yes w (.returned (.bool true)) x) := fun x hx => ⟨rfl, HB0.out.1.trans (hx.mono HB0.out.2)⟩
  generalize w.alloc (.cells #[.int .i64 f, .int .i64 c] 23) = v0 at *
  clear HB0
  generalize w.heap.size = z0 at *
  refine (wsmall_any A m cap os v0 HO.out).mono ?_
  rintro e w' ⟨bb, rfl, hbb, rfl⟩
  cases bb
  · clear hbb
    go_wp2_with fail
    refine (awake8_any _).mono ?_
    rintro e w2 ⟨rfl, hb2⟩
    go_wp2
    go_ret
    exact HYES.out _ hb2
  obtain ⟨hm, hsm⟩ := hbb rfl
  have HS := Lib.hid hsm
  have HM := Lib.hid hm
  have hm40 : (m : Int) ≤ 40 := by omega
  clear hsm hm hbb
  have hnew : Calls Tryz.prog 6 #[.int .i64 30] v0 fun e w' => ∃ a, e = .returned (.tuple #[.pointer (some ⟨a, 0, none⟩), .int .i64 0]) ∧ v0.heap.size ≤ a ∧ PD w' (newF v0 w') a 30 (Dsk.fresh st0) ∧ Below v0.heap.size v0 w' := new_yes 30 v0 (by omega) (by omega)
  go_wp2_with fail
  refine hnew.mono ?_
  rintro e w1 ⟨a1, rfl, _, hpd, hb1⟩
  have HP := Lib.hid hpd
  have HB1 := Lib.hid hb1
  have hrnew : Calls Tryz.prog 7 #[.int .i64 30] w1 fun e w' => ∃ a, e = .returned (.tuple #[.pointer (some ⟨a, 0, none⟩), .int .i64 0]) ∧ RD w' (newF w1 w') a 30 (Dsk.fresh st0) ∧ Below w1.heap.size w1 w' := rnew_yes 30 w1 (by omega) (by omega)
  clear hnew hpd hb1
  go_wp2_with fail
  refine hrnew.mono ?_
  rintro e w2 ⟨a2, rfl, hrd, hb2⟩
  have HT0 : Hid (WStep v0 w2 a1 a2 (.pointer none) (.pointer none)) := ⟨_, _, _, two_start8 HP.out HB1.out hrd hb2, .inl ⟨rfl, rfl⟩⟩
  clear hrd hb2 HP HB1 hrnew
  go_wp2
  go_loopw [11, 12, 13] (fun lv mv iv wr => ∃ j : Int, -1 ≤ j ∧ j ≤ (m : Int) ∧ iv = .int .i64 j ∧ Hid (WStep v0 wr a1 a2 lv mv)) (fun _ _ iv _ => ((m : Int) - RowKit.intOf iv).toNat)
  case atStart => exact ⟨-1, by omega, by omega, rfl, HT0.out⟩
  case round =>
    obtain ⟨j, hj0, hj1, rfl, HR⟩ := hrel
    by_cases hlt : j < (m : Int)
    · obtain ⟨F1, F2, S, hT, hBo⟩ := HR.out
      have hbC : Below wr.heap.size wr (wr.alloc (.cells #[.int .i64 3, .slice none 0 0, .slice none 0 0, .slice none 0 0] 41)) := (Below.refl _ _).alloc (Nat.le_refl _) _
      by_cases hneg : j < 0
      · have HT := Lib.hid (hT.below hbC)
        have i0 := (HT.out.bel.cell (p := ⟨z0, 0, none⟩) HZL.out).trans HZ0.out
        have i1 := (HT.out.bel.cell (p := ⟨z0, 1, none⟩) HZL.out).trans HZ1.out
        clear hT hBo hbC HT0 HR
        obtain ⟨R, hR⟩ : ∃ R, R = Dsk.wopen S 30 f c ep := ⟨_, rfl⟩
        have hop := pwopen_any HT.out.p f c ep HF.out.2
        rw [← hR] at hop
        have hRl := wopen_len (f := f) (c := c) (e := ep) HT.out.p.ok
        have hRo := fun L h => (wopen_ok (f := f) (c := c) (e := ep) (L := L) HT.out.p.ok h).1
        rw [← hR] at hRl hRo
        have HRR := Lib.hid hR
        have HRO := Lib.hid hRo
        have y0 := (HT.out.bel.cell (p := ⟨z0, 0, none⟩) HZL.out).trans HZ0.out
        have y1 := (HT.out.bel.cell (p := ⟨z0, 1, none⟩) HZL.out).trans HZ1.out
        clear hR hRo
        go_wp2_with (go_at_call 18; refine hop.mono ?_; rintro e w3 ⟨G1, pv, pl, rfl, hd1, hf1, hG1, hl1, hr1⟩; have HT1 := Lib.hid (two_po HT.out hd1 hf1 hG1); have HL1 := Lib.hid hl1; have HR1 := Lib.hid hr1; have HG1 := Lib.hid (fun b (hb : G1 b) => hd1.lt b hb); have q0 := (HT1.out.bel.cell (p := ⟨z0, 0, none⟩) HZL.out).trans HZ0.out; have q1 := (HT1.out.bel.cell (p := ⟨z0, 1, none⟩) HZL.out).trans HZ1.out; clear hd1 hf1 hG1 hl1 hr1 hop; have hrop := rwopen_any HT1.out.r f c ep HC.out.2; rw [← HRR.out] at hrop)
        refine hrop.mono ?_
        rintro e w4 ⟨G2, rv, rl, rfl, hd2, hf2, hG2, hl2, hr2⟩
        have HT2 := Lib.hid (two_ro HT1.out hd2 hf2 hG2)
        have HB2 := Lib.hid (both_open HT.out HRO.out HL1.out hl2 hf2 hG2 HG1.out)
        obtain ⟨Ap, cp, vp, rfl, hp1, hp2⟩ := (HR1.out.keep hf2 (fun b hb => .inl (HT.out.r.lt b hb))).rows
        obtain ⟨Ar, cr, vr, rfl, hq1, hq2⟩ := hr2.rows
        have hli := listsH_any Ap Ar _ _ cp cr R.ps R.ps vp vr _ w4 hp1 hq1 hp2 hq2 (Nat.le_refl _) (by omega) (by omega)
        rw [listsB_refl] at hli
        generalize R.ps.length = rn at *
        generalize R.err = re at *
        clear hd2 hf2 hG2 hl2 hr2 hp1 hp2 hq1 hq2 hrop y0 y1 q0 q1
        go_wp2_with (go_at_call 20; refine hli.mono ?_; rintro e w5 ⟨rfl, hb5⟩; have HT3 := Lib.hid (HT2.out.below hb5); have HB3 := Lib.hid (HB2.out.below hb5); clear hb5; have hsm := same_both HB3.out (by omega))
        refine hsm.mono ?_
        rintro e w9 ⟨rfl, hb9⟩
        have HN : Hid (WStep v0 w9 a1 a2 pv rv) := ⟨_, _, _, HT3.out.below hb9, HB3.out.below hb9⟩
        clear hb9 hli hsm
        go_wp2
        go_roundw
        case rel => exact ⟨j + 1, by omega, by omega, rfl, HN.out⟩
        case measure => simp [RowKit.intOf]; omega
      · obtain ⟨k, rfl⟩ := Int.eq_ofNat_of_zero_le (show 0 ≤ j by omega)
        obtain ⟨b, off, rfl, hbw, hcc⟩ := HO.out.2 (by omega)
        have hkf : k < os.length := by rw [HO.out.1]; omega
        obtain ⟨hop, e0, e1, e2, e3⟩ := hcc k hkf
        have hsz := HS.out k hkf
        have hbl : ∀ (o : Nat) (v : Value), v0.cell? ⟨b, o, none⟩ = some v → (wr.alloc (.cells #[.int .i64 3, .slice none 0 0, .slice none 0 0, .slice none 0 0] 41)).cell? ⟨b, o, none⟩ = some v := fun o v hv => ((hT.below hbC).bel.cell (p := ⟨b, o, none⟩) hbw).trans hv
        have d0 := hbl _ _ e0
        have d1 := hbl _ _ e1
        have d2 := hbl _ _ e2
        have d3 := hbl _ _ e3
        clear e0 e1 e2 e3 hbl hbC
        generalize os[k] = ov at d0 d1 d2 d3 hop hsz
        obtain ⟨kd, A8, n8, c8, l8, Af, nf, cf, fs, Ak, nk, ck, ks⟩ := ov
        have H8 : Hid (Arg8 v0 A8 n8 c8 l8) := hop.a8
        have HFL : Hid (PairsF noF v0 Af nf fs ∧ (Af = none → cf = 0)) := ⟨hop.fl.1, hop.fl.2.1⟩
        have HKS : Hid (PairsF noF v0 Ak nk ks) := hop.p.1
        have HZ : Hid (n8 ≤ 1026 ∧ nf ≤ 66 ∧ nk ≤ 80) := hsz
        simp only [] at d0 d1 d2 d3
        have hbD : Below wr.heap.size wr (wr.alloc (.cells #[.int .i64 kd, .slice A8 n8 c8, .slice Af nf cf, .slice Ak nk ck] 41)) := (Below.refl _ _).alloc (Nat.le_refl _) _
        have HT := Lib.hid (hT.below hbD)
        have HBo := Lib.hid (hBo.below hbD)
        have hz1 : Hid (¬ F1 wr.heap.size) := fun h => Nat.lt_irrefl _ (hT.p.lt _ h)
        have hz2 : Hid (¬ F2 wr.heap.size) := fun h => Nat.lt_irrefl _ (hT.r.lt _ h)
        have hzz : Hid (wr.heap.size < (wr.alloc (.cells #[.int .i64 kd, .slice A8 n8 c8, .slice Af nf cf, .slice Ak nk ck] 41)).heap.size) := by show wr.heap.size < (wr.heap.push _).size; simp
        have hl0 := heap_alloc_last wr (.cells #[.int .i64 kd, .slice A8 n8 c8, .slice Af nf cf, .slice Ak nk ck] 41)
        have z1 : (wr.alloc (.cells #[.int .i64 kd, .slice A8 n8 c8, .slice Af nf cf, .slice Ak nk ck] 41)).cell? ⟨wr.heap.size, 1, none⟩ = some (.slice A8 n8 c8) := cell_of_row _ wr.heap.size 1 _ _ _ hl0
        have z2 : (wr.alloc (.cells #[.int .i64 kd, .slice A8 n8 c8, .slice Af nf cf, .slice Ak nk ck] 41)).cell? ⟨wr.heap.size, 2, none⟩ = some (.slice Af nf cf) := cell_of_row _ wr.heap.size 2 _ _ _ hl0
        have z3 : (wr.alloc (.cells #[.int .i64 kd, .slice A8 n8 c8, .slice Af nf cf, .slice Ak nk ck] 41)).cell? ⟨wr.heap.size, 3, none⟩ = some (.slice Ak nk ck) := cell_of_row _ wr.heap.size 3 _ _ _ hl0
        have i0 := (HT.out.bel.cell (p := ⟨z0, 0, none⟩) HZL.out).trans HZ0.out
        have i1 := (HT.out.bel.cell (p := ⟨z0, 1, none⟩) HZL.out).trans HZ1.out
        have hblt : Hid (∀ b, u11 = .pointer (some ⟨b, 0, none⟩) ∨ u12 = .pointer (some ⟨b, 0, none⟩) → b < wr.heap.size) := fun b hb => by
          rcases hBo with ⟨e1, e2⟩ | ⟨b1, b2, L, e1, e2, h⟩
          · rw [e1, e2] at hb
            rcases hb with e | e <;> cases e
          · rw [e1, e2] at hb
            rcases hb with e | e
            · injection e with e; injection e with e; injection e with e _ _; exact e ▸ h.p.lt
            · injection e with e; injection e with e; injection e with e _ _; exact e ▸ h.r.lt
        have hz4 : (wr.alloc (.cells #[.int .i64 kd, .slice A8 n8 c8, .slice Af nf cf, .slice Ak nk ck] 41)).cell? ⟨wr.heap.size, 0, none⟩ = some (.int .i64 kd) := cell_of_row _ wr.heap.size 0 _ _ _ hl0
        clear hT hBo hop hsz hcc hkf hbD hl0 HT0 HR hneg
        by_cases hk0 : kd = 0
        · subst kd
          go_wp2_with fail
          clear d0 d1 d2 d3

          generalize (wr.alloc (.cells #[.int .i64 0, .slice A8 n8 c8, .slice Af nf cf, .slice Ak nk ck] 41)) = D at *
          generalize wr.heap.size = z at *

          have h8D := H8.out.1.below' HT.out.bel (Nat.le_refl _)
          refine (ownBytes_any A8 n8 c8 _ l8 D h8D H8.out.2.2.2 (by have := HZ.out.1; omega) HT.out.bel.size).mono ?_
          rintro e wa ⟨⟨v, rfl, hown⟩, hba⟩
          obtain ⟨Ao, co, rfl, ho, _⟩ := Has.of_own hown
          have hon := of_own_none hown
          have HOF := Lib.hid (hasF_own (F := fun b => b < D.heap.size) hown (fun b hb => hb))
          have hbad := hba.trans (((Below.refl wa.heap.size wa).drew).mono hba.size)
          have HTa := Lib.hid (HT.out.below hbad)
          have HBa := Lib.hid (HBo.out.below hbad)
          have HOa := Lib.hid (HOF.out.keep (G := fun b => b < D.heap.size) (Frm.of_below (F := fun b => b < D.heap.size) ((Below.refl wa.heap.size wa).drew)) (fun b hb => .inl hb))
          have z1a := (hba.cell (p := ⟨z, 1, none⟩) (cell_lt z1)).trans z1
          have hn8 : Hid (n8 ≤ 1000000) := by have := HZ.out.1; show _ ≤ _; omega
          have heq := eqL_refl l8
          clear h8D hown hba hbad ho z1 z2 z3 hz4 i0 i1
          rcases HBa.out with ⟨rfl, rfl⟩ | ⟨b1, b2, L, rfl, rfl, hLg⟩
          · have hby := bytes_any Ao A8 n8 co n8 c8 _ l8 l8 wa.drew HOa.out.has ((H8.out.1.below' HTa.out.bel (Nat.le_refl _)).more HTa.out.bel.size)
            rw [heq] at hby
            go_wp2
            go_region_held3 (fun W => W.cell? ⟨z, 1, none⟩ = some (.slice A8 n8 c8)) (go_keep)
              (first
                | (go_at_call 9
                   refine (pwapp_nil Ao n8 co _).mono ?_
                   rintro e w' ⟨rfl, rfl⟩)
                | (go_at_call 10
                   refine (rwapp_nil A8 n8 c8 _).mono ?_
                   rintro e w' ⟨rfl, rfl⟩)
                | (go_at_call 11
                   refine hby.mono ?_
                   rintro e w' ⟨rfl, rfl⟩))
            have hsm := same_both HBa.out (by omega)
            go_wp2_with fail
            refine hsm.mono ?_
            rintro e w9 ⟨rfl, hb9⟩
            have HN : Hid (WStep v0 w9 a1 a2 (.pointer none) (.pointer none)) := ⟨_, _, _, HTa.out.below hb9, HBa.out.below hb9⟩
            clear hb9 hsm
            go_wp2
            go_roundw
            case rel => exact ⟨(k : Int) + 1, by omega, by omega, rfl, HN.out⟩
            case measure => simp [RowKit.intOf]; omega
          · have HLg := Lib.hid hLg
            have hb1z : z ≠ b1 := fun e => Nat.lt_irrefl _ (e ▸ hblt.out b1 (.inl rfl))
            have hb2z : z ≠ b2 := fun e => Nat.lt_irrefl _ (e ▸ hblt.out b2 (.inr rfl))
            have hb1D : Hid (b1 < D.heap.size) := Nat.lt_trans (hblt.out b1 (.inl rfl)) hzz.out
            have hb2D : Hid (b2 < D.heap.size) := Nat.lt_trans (hblt.out b2 (.inr rfl)) hzz.out
            have hF1D : Hid (∀ b, F1 b → b < D.heap.size) := HT.out.p.lt
            have hF2D : Hid (∀ b, F2 b → b < D.heap.size) := HT.out.r.lt
            obtain ⟨R, hR⟩ : ∃ R, R = S.wapp 30 L l8 := ⟨_, rfl⟩
            have hRo := wapp_ok (S := S) (by omega) hLg.ok l8
            have hap := pwapp_any HTa.out.p hLg.p hLg.n11 hLg.ok Ao n8 co _ l8 HOa.out.has hon hn8.out (Nat.le_refl _)
            rw [← hR] at hRo hap
            have HRR := Lib.hid hR
            have HRO := Lib.hid hRo
            have HZB := Lib.hid (And.intro hb1z hb2z)
            clear hLg hR hRo hb1z hb2z
            go_wp2
            go_region_held3 (fun W => W.cell? ⟨z, 1, none⟩ = some (.slice A8 n8 c8)) (first | exact s1 | go_keep)
              (first
                | (go_at_call 9
                   refine hap.mono ?_
                   rintro e wb ⟨G1, rfl, hd1, hp1, hf1, hG1⟩
                   have HTb := Lib.hid (two_p HTa.out hd1 hf1 hG1 HLg.out.n21 HLg.out.lo1)
                   have HOb := Lib.hid (HOa.out.keep (G := fun b => b < D.heap.size) (hf1.more (fun b hb _ => hb.elim (hF1D.out b) (fun e => e ▸ hb1D.out))) (fun b hb => .inl hb))
                   have HPb := Lib.hid hp1
                   have HRb := Lib.hid (HLg.out.r.keep hf1 (fun hb => hb.elim HLg.out.n12 (fun e => HLg.out.ne e.symm)))
                   have HGb := Lib.hid hG1
                   have HSb := Lib.hid hf1.size
                   have s1 := (hf1.cell (p := ⟨z, 1, none⟩) (cell_lt (w := wa) z1a) (fun hb => hb.elim hz1.out HZB.out.1)).trans z1a
                   clear hd1 hp1 hf1 hG1 hap)
                | (go_at_call 10
                   have hra := rwapp_any HTb.out.r HRb.out HLg.out.n22 HLg.out.ok A8 n8 c8 _ l8 (H8.out.1.below' HTb.out.bel (Nat.le_refl _)) H8.out.2.2.2 hn8.out HTb.out.bel.size
                   rw [← HRR.out] at hra
                   refine hra.mono ?_
                   rintro e wc ⟨G2, rfl, hd2, hr2, hf2, hG2⟩
                   have hn12 : ¬ G1 b2 := fun hb => (HGb.out _ hb).elim HLg.out.n12 (fun g => Nat.lt_irrefl _ (Nat.lt_of_lt_of_le HLg.out.r.lt g))
                   have HTc := Lib.hid (two_r HTb.out hd2 hf2 hG2 hn12 HLg.out.lo2)
                   have HBc : Hid (Both v0 wc G1 G2 a1 a2 30 (.pointer (some ⟨b1, 0, none⟩)) (.pointer (some ⟨b2, 0, none⟩))) := .inr ⟨b1, b2, R.2.2, rfl, rfl, lgs_step HLg.out (HPb.out.keep hf2 (fun hb => hb.elim HLg.out.n21 HLg.out.ne)) hr2 HRO.out HGb.out hG2 HSb.out⟩
                   have hby := bytes_any Ao A8 n8 co n8 c8 _ l8 l8 wc (HOb.out.keep (G := fun b => b < D.heap.size) (hf2.more (fun b hb _ => hb.elim (hF2D.out b) (fun e => e ▸ hb2D.out))) (fun b hb => .inl hb)).has ((H8.out.1.below' HTc.out.bel (Nat.le_refl _)).more HTc.out.bel.size)
                   rw [heq] at hby
                   have s2 := (hf2.cell (p := ⟨z, 1, none⟩) (cell_lt s1) (fun hb => hb.elim hz2.out HZB.out.2)).trans s1
                   have s1 := s2
                   clear hd2 hr2 hf2 hG2 hn12 s2)
                | (go_at_call 11
                   refine hby.mono ?_
                   rintro e w' ⟨rfl, rfl⟩))
            clear s1
            have hsm := same_both HBc.out (by omega)
            go_wp2_with fail
            refine hsm.mono ?_
            rintro e w9 ⟨rfl, hb9⟩
            have HN : Hid (WStep v0 w9 a1 a2 (.pointer (some ⟨b1, 0, none⟩)) (.pointer (some ⟨b2, 0, none⟩))) := ⟨_, _, _, HTc.out.below hb9, HBc.out.below hb9⟩
            clear hb9 hsm
            go_wp2
            go_roundw
            case rel => exact ⟨(k : Int) + 1, by omega, by omega, rfl, HN.out⟩
            case measure => simp [RowKit.intOf]; omega
        · have hk0n : (kd == 0) = false := by simpa using hk0
          clear hk0
          by_cases hk1 : kd = 1
          · subst kd
            rcases HBo.out with ⟨rfl, rfl⟩ | ⟨b1, b2, L, rfl, rfl, hLg⟩
            · go_wp2_with (first
                | (go_at_call 12; refine (plsync_nil _).mono ?_; rintro e w' ⟨rfl, rfl⟩)
                | (go_at_call 13; refine (rlsync_nil _).mono ?_; rintro e w' ⟨rfl, rfl⟩)
                | (go_at_call 21; refine (same_both HBo.out (by omega)).mono ?_; rintro e w9 ⟨rfl, hb9⟩; have HN : Hid (WStep v0 w9 a1 a2 (.pointer none) (.pointer none)) := ⟨_, _, _, HT.out.below hb9, HBo.out.below hb9⟩; clear hb9))
              go_roundw
              case rel => exact ⟨(k : Int) + 1, by omega, by omega, rfl, HN.out⟩
              case measure => simp [RowKit.intOf]; omega
            · have HLg := Lib.hid hLg
              obtain ⟨R, hR⟩ : ∃ R, R = S.wsync L := ⟨_, rfl⟩
              have hRo := wsync_ok (S := S) hLg.ok
              have hap := plsync_any HT.out.p hLg.p hLg.n11
              rw [← hR] at hRo hap
              have HRR := Lib.hid hR
              have HRO := Lib.hid hRo
              clear hLg hR hRo
              go_wp2_with fail
              clear d0 d1 d2 d3
              generalize (wr.alloc (.cells #[.int .i64 1, .slice A8 n8 c8, .slice Af nf cf, .slice Ak nk ck] 41)) = D at *
              refine hap.mono ?_
              rintro e wb ⟨G1, rfl, hd1, hp1, hf1, hG1⟩
              have HTb := Lib.hid (two_p HT.out hd1 hf1 hG1 HLg.out.n21 HLg.out.lo1)
              have HPb := Lib.hid hp1
              have HGb := Lib.hid hG1
              have HSb := Lib.hid hf1.size
              have hra := rlsync_any HTb.out.r (HLg.out.r.keep hf1 (fun hb => hb.elim HLg.out.n12 (fun e => HLg.out.ne e.symm))) HLg.out.n22
              rw [← HRR.out] at hra
              clear hd1 hp1 hf1 hG1 hap z1 z2 z3 hz4 i0 i1
              go_wp2_with fail
              refine hra.mono ?_
              rintro e wc ⟨G2, rfl, hd2, hr2, hf2, hG2⟩
              have hn12 : ¬ G1 b2 := fun hb => (HGb.out _ hb).elim HLg.out.n12 (fun g => Nat.lt_irrefl _ (Nat.lt_of_lt_of_le HLg.out.r.lt g))
              have HTc := Lib.hid (two_r HTb.out hd2 hf2 hG2 hn12 HLg.out.lo2)
              have HBc : Hid (Both v0 wc G1 G2 a1 a2 30 (.pointer (some ⟨b1, 0, none⟩)) (.pointer (some ⟨b2, 0, none⟩))) := .inr ⟨b1, b2, R.2.2, rfl, rfl, lgs_step HLg.out (HPb.out.keep hf2 (fun hb => hb.elim HLg.out.n21 HLg.out.ne)) hr2 HRO.out HGb.out hG2 HSb.out⟩
              clear hd2 hr2 hf2 hG2 hn12 hra
              have hsm := same_both HBc.out (by omega)
              go_wp2_with fail
              refine hsm.mono ?_
              rintro e w9 ⟨rfl, hb9⟩
              have HN : Hid (WStep v0 w9 a1 a2 (.pointer (some ⟨b1, 0, none⟩)) (.pointer (some ⟨b2, 0, none⟩))) := ⟨_, _, _, HTc.out.below hb9, HBc.out.below hb9⟩
              clear hb9 hsm
              go_wp2
              go_roundw
              case rel => exact ⟨(k : Int) + 1, by omega, by omega, rfl, HN.out⟩
              case measure => simp [RowKit.intOf]; omega
          · have hk1n : (kd == 1) = false := by simpa using hk1
            clear hk1
            by_cases hk2 : kd = 2
            · subst kd
              obtain ⟨er, her⟩ : ∃ x : Int, x = (if armOk fs then 0 else 1) := ⟨_, rfl⟩
              obtain ⟨S3, hS3⟩ : ∃ X, X = (if armOk fs then S.armed fs else S) := ⟨_, rfl⟩
              have hbdr := (Below.refl (wr.alloc (.cells #[.int .i64 2, .slice A8 n8 c8, .slice Af nf cf, .slice Ak nk ck] 41)).heap.size (wr.alloc (.cells #[.int .i64 2, .slice A8 n8 c8, .slice Af nf cf, .slice Ak nk ck] 41))).drew
              have HTd := Lib.hid (HT.out.below hbdr)
              have HBd := Lib.hid (HBo.out.below hbdr)
              have harm := arm_any HTd.out.p Af nf cf fs (HTd.out.prs1 HFL.out.1) (by have := HZ.out.2.1; omega) HFL.out.2
              rw [← her, ← hS3] at harm
              have HER := Lib.hid her
              have HS3 := Lib.hid hS3
              clear her hS3 hbdr
              go_wp2
              generalize (wr.alloc (.cells #[.int .i64 2, .slice A8 n8 c8, .slice Af nf cf, .slice Ak nk ck] 41)) = D at *
              clear d0 d1 d2 d3
              generalize wr.heap.size = z at *
              go_region_held3 (fun W => W.cell? ⟨z, 2, none⟩ = some (.slice Af nf cf)) (first | exact s2 | go_keep)
                (first
                  | (go_at_call 14
                     refine harm.mono ?_
                     rintro e wp ⟨rfl, hpp, hfp⟩
                     have s2 := (hfp.cell (p := ⟨z, 2, none⟩) (cell_lt (w := D) z2) hz1.out).trans z2
                     have HTp := Lib.hid (HTd.out.p_step hpp hfp)
                     have HBp := Lib.hid (HBd.out.keep (G1 := fun b => F1 b ∨ newF D.drew wp b) (G2 := F2) hfp (fun b hb => .inl hb) (fun b hb => hb.imp id (fun h => h.1)) (fun b hb => .inl hb))
                     clear hpp hfp)
                  | (go_at_call 15
                     have hra := rarm_any HTp.out.r Af nf cf fs (HTp.out.prs2 HFL.out.1) (by have := HZ.out.2.1; omega) HFL.out.2
                     rw [← HER.out, ← HS3.out] at hra
                     refine hra.mono ?_
                     rintro e wq ⟨rfl, hpq, hfq⟩
                     have t2 := (hfq.cell (p := ⟨z, 2, none⟩) (cell_lt s2) hz2.out).trans s2
                     have s2 := t2
                     have HTq := Lib.hid (HTp.out.r_step hpq hfq)
                     have HBq := Lib.hid (HBp.out.keep (G1 := fun b => F1 b ∨ newF D.drew wp b) (G2 := fun b => F2 b ∨ newF wp wq b) hfq (fun b hb => .inr hb) (fun b hb => .inl hb) (fun b hb => hb.imp id (fun h => h.1)))
                     clear hpq hfq t2))
              clear s2 z1 z2 z3 hz4 i0 i1

              have hsm := same_both HBq.out (by omega)
              go_wp2_with fail
              refine hsm.mono ?_
              rintro e w9 ⟨rfl, hb9⟩
              have HN : Hid (WStep v0 w9 a1 a2 (u11) (u12)) := ⟨_, _, _, HTq.out.below hb9, HBq.out.below hb9⟩
              clear hb9 hsm
              go_wp2
              go_roundw
              case rel => exact ⟨(k : Int) + 1, by omega, by omega, rfl, HN.out⟩
              case measure => simp [RowKit.intOf]; omega
            · have hk2n : (kd == 2) = false := by simpa using hk2
              clear hk2
              by_cases hk3 : kd = 3
              · subst kd
                obtain ⟨R, hR⟩ : ∃ R, R = Dsk.wopen S 30 f c ep := ⟨_, rfl⟩
                have hop := pwopen_any HT.out.p f c ep HF.out.2
                rw [← hR] at hop
                have hRl := wopen_len (f := f) (c := c) (e := ep) HT.out.p.ok
                have hRo := fun L h => (wopen_ok (f := f) (c := c) (e := ep) (L := L) HT.out.p.ok h).1
                rw [← hR] at hRl hRo
                have HRR := Lib.hid hR
                have HRO := Lib.hid hRo
                have y0 := (HT.out.bel.cell (p := ⟨z0, 0, none⟩) HZL.out).trans HZ0.out
                have y1 := (HT.out.bel.cell (p := ⟨z0, 1, none⟩) HZL.out).trans HZ1.out
                clear hR hRo
                go_wp2_with (go_at_call 18; refine hop.mono ?_; rintro e w3 ⟨G1, pv, pl, rfl, hd1, hf1, hG1, hl1, hr1⟩; have HT1 := Lib.hid (two_po HT.out hd1 hf1 hG1); have HL1 := Lib.hid hl1; have HR1 := Lib.hid hr1; have HG1 := Lib.hid (fun b (hb : G1 b) => hd1.lt b hb); have q0 := (HT1.out.bel.cell (p := ⟨z0, 0, none⟩) HZL.out).trans HZ0.out; have q1 := (HT1.out.bel.cell (p := ⟨z0, 1, none⟩) HZL.out).trans HZ1.out; clear hd1 hf1 hG1 hl1 hr1 hop; have hrop := rwopen_any HT1.out.r f c ep HC.out.2; rw [← HRR.out] at hrop)
                refine hrop.mono ?_
                rintro e w4 ⟨G2, rv, rl, rfl, hd2, hf2, hG2, hl2, hr2⟩
                have HT2 := Lib.hid (two_ro HT1.out hd2 hf2 hG2)
                have HB2 := Lib.hid (both_open HT.out HRO.out HL1.out hl2 hf2 hG2 HG1.out)
                obtain ⟨Ap, cp, vp, rfl, hp1, hp2⟩ := (HR1.out.keep hf2 (fun b hb => .inl (HT.out.r.lt b hb))).rows
                obtain ⟨Ar, cr, vr, rfl, hq1, hq2⟩ := hr2.rows
                have hli := listsH_any Ap Ar _ _ cp cr R.ps R.ps vp vr _ w4 hp1 hq1 hp2 hq2 (Nat.le_refl _) (by omega) (by omega)
                rw [listsB_refl] at hli
                generalize R.ps.length = rn at *
                generalize R.err = re at *
                clear hd2 hf2 hG2 hl2 hr2 hp1 hp2 hq1 hq2 hrop y0 y1 q0 q1
                go_wp2_with (go_at_call 20; refine hli.mono ?_; rintro e w5 ⟨rfl, hb5⟩; have HT3 := Lib.hid (HT2.out.below hb5); have HB3 := Lib.hid (HB2.out.below hb5); clear hb5; have hsm := same_both HB3.out (by omega))
                refine hsm.mono ?_
                rintro e w9 ⟨rfl, hb9⟩
                have HN : Hid (WStep v0 w9 a1 a2 pv rv) := ⟨_, _, _, HT3.out.below hb9, HB3.out.below hb9⟩
                clear hb9 hli hsm
                go_wp2
                go_roundw
                case rel => exact ⟨(k : Int) + 1, by omega, by omega, rfl, HN.out⟩
                case measure => simp [RowKit.intOf]; omega
              · have hk3n : (kd == 3) = false := by simpa using hk3
                clear hk3
                have hk3m : (kd != 3) = true := by simp [bne, hk3n]
                go_wp2_with fail
                clear d0 d1 d2 d3

                generalize (wr.alloc (.cells #[.int .i64 kd, .slice A8 n8 c8, .slice Af nf cf, .slice Ak nk ck] 41)) = D at *
                generalize wr.heap.size = z at *

                refine (restart_any HT.out.p Ak nk ck ks (HT.out.prs1 HKS.out) (by have := HZ.out.2.2; omega)).mono ?_
                rintro e wp ⟨rfl, hpp, hfp⟩
                have HTp := Lib.hid (HT.out.p_same hpp hfp)
                have z3p := (hfp.cell (p := ⟨z, 3, none⟩) (cell_lt z3) hz1.out).trans z3
                have z4p := (hfp.cell (p := ⟨z, 0, none⟩) (cell_lt hz4) hz1.out).trans hz4
                clear hpp hfp z1 z2 z3 hz4 i0 i1
                go_wp2_with fail
                refine (rrestart_any HTp.out.r Ak nk ck ks (HTp.out.prs2 HKS.out) (by have := HZ.out.2.2; omega)).mono ?_
                rintro e wq ⟨rfl, hpq, hfq⟩
                have HTq := Lib.hid (HTp.out.r_step hpq hfq)
                clear hpq hfq z3p z4p
                have y0 := (HTq.out.bel.cell (p := ⟨z0, 0, none⟩) HZL.out).trans HZ0.out
                have y1 := (HTq.out.bel.cell (p := ⟨z0, 1, none⟩) HZL.out).trans HZ1.out

                obtain ⟨R, hR⟩ : ∃ R, R = Dsk.wopen (S.restarted ks) 30 f c ep := ⟨_, rfl⟩
                have hop := pwopen_any HTq.out.p f c ep HF.out.2
                rw [← hR] at hop
                have hRl := wopen_len (f := f) (c := c) (e := ep) HTq.out.p.ok
                have hRo := fun L h => (wopen_ok (f := f) (c := c) (e := ep) (L := L) HTq.out.p.ok h).1
                rw [← hR] at hRl hRo
                have HRR := Lib.hid hR
                have HRO := Lib.hid hRo
                have y0 := (HTq.out.bel.cell (p := ⟨z0, 0, none⟩) HZL.out).trans HZ0.out
                have y1 := (HTq.out.bel.cell (p := ⟨z0, 1, none⟩) HZL.out).trans HZ1.out
                clear hR hRo
                go_wp2_with (go_at_call 18; refine hop.mono ?_; rintro e w3 ⟨G1, pv, pl, rfl, hd1, hf1, hG1, hl1, hr1⟩; have HT1 := Lib.hid (two_po HTq.out hd1 hf1 hG1); have HL1 := Lib.hid hl1; have HR1 := Lib.hid hr1; have HG1 := Lib.hid (fun b (hb : G1 b) => hd1.lt b hb); have q0 := (HT1.out.bel.cell (p := ⟨z0, 0, none⟩) HZL.out).trans HZ0.out; have q1 := (HT1.out.bel.cell (p := ⟨z0, 1, none⟩) HZL.out).trans HZ1.out; clear hd1 hf1 hG1 hl1 hr1 hop; have hrop := rwopen_any HT1.out.r f c ep HC.out.2; rw [← HRR.out] at hrop)
                refine hrop.mono ?_
                rintro e w4 ⟨G2, rv, rl, rfl, hd2, hf2, hG2, hl2, hr2⟩
                have HT2 := Lib.hid (two_ro HT1.out hd2 hf2 hG2)
                have HB2 := Lib.hid (both_open HTq.out HRO.out HL1.out hl2 hf2 hG2 HG1.out)
                obtain ⟨Ap, cp, vp, rfl, hp1, hp2⟩ := (HR1.out.keep hf2 (fun b hb => .inl (HTq.out.r.lt b hb))).rows
                obtain ⟨Ar, cr, vr, rfl, hq1, hq2⟩ := hr2.rows
                have hli := listsH_any Ap Ar _ _ cp cr R.ps R.ps vp vr _ w4 hp1 hq1 hp2 hq2 (Nat.le_refl _) (by omega) (by omega)
                rw [listsB_refl] at hli
                generalize R.ps.length = rn at *
                generalize R.err = re at *
                clear hd2 hf2 hG2 hl2 hr2 hp1 hp2 hq1 hq2 hrop y0 y1 q0 q1
                go_wp2_with (go_at_call 20; refine hli.mono ?_; rintro e w5 ⟨rfl, hb5⟩; have HT3 := Lib.hid (HT2.out.below hb5); have HB3 := Lib.hid (HB2.out.below hb5); clear hb5; have hsm := same_both HB3.out (by omega))
                refine hsm.mono ?_
                rintro e w9 ⟨rfl, hb9⟩
                have HN : Hid (WStep v0 w9 a1 a2 pv rv) := ⟨_, _, _, HT3.out.below hb9, HB3.out.below hb9⟩
                clear hb9 hli hsm
                go_wp2
                go_roundw
                case rel => exact ⟨(k : Int) + 1, by omega, by omega, rfl, HN.out⟩
                case measure => simp [RowKit.intOf]; omega
    · obtain rfl : j = (m : Int) := by omega
      obtain ⟨F1, F2, S, hT, _⟩ := HR.out
      have HT := Lib.hid hT
      have hdl : Hid ((dirtyZ 30 S.ca).length ≤ 1000000) := by show _ ≤ _; have := dirtyZ_len 30 S.ca; omega
      have hof := off_any hT.p
      have hrof := roff_any hT.r
      generalize S.off = so at hof hrof
      clear hT HR hj0 hj1 hlt HT0
      go_wp2_with fail
      refine hof.mono ?_
      rintro e w' ⟨rfl, rfl⟩
      go_wp2_with fail
      refine hrof.mono ?_
      rintro e w' ⟨rfl, rfl⟩
      go_wp2_with fail
      refine (dirty_any HT.out.p).mono ?_
      rintro e wE ⟨vE, rfl, hoE, hbE⟩
      obtain ⟨AE, kE, rfl, hdE, _⟩ := Has.of_own hoE
      have HTE := Lib.hid (HT.out.below hbE)
      have HDE := Lib.hid hdE
      clear hoE hdE hbE hof hrof
      go_wp2_with fail
      refine (rdirty_any HTE.out.r).mono ?_
      rintro e wG ⟨vG, rfl, hoG, hbG⟩
      obtain ⟨AG, kG, rfl, hdG, _⟩ := Has.of_own hoG
      have HTG := Lib.hid (HTE.out.below hbG)
      have hint := ints_any AE AG _ kE _ kG wG.heap.size _ wG ((HDE.out.below hbG).more hbG.size) hdG hdl.out (Nat.le_refl _)
      generalize (dirtyZ 30 S.ca).length = dl at *
      clear hoG hdG hbG
      go_wp2_with fail
      refine hint.mono ?_
      rintro e wH ⟨rfl, hbH⟩
      have HTH := Lib.hid (HTG.out.below hbH)
      clear hbH hint
      go_wp2_with fail
      refine (image_any HTH.out.p).mono ?_
      rintro e wI ⟨gI, rfl, _, hrI, hbI⟩
      have hII := has_row8 hrI (show ((flat 30 S.st).map bv).length = 64 * 30 by rw [List.length_map, flat_length (fun i hi => HT.out.p.ok.st i hi)])
      have HTI := Lib.hid (HTH.out.below hbI)
      have HII := Lib.hid hII
      clear hrI hbI hII
      go_wp2_with fail
      refine (rimage_any HTI.out.r).mono ?_
      rintro e wJ ⟨vJ, LJ, rfl, hLJ, hoJ, hbJ⟩
      obtain ⟨AJ, kJ, rfl, hdJ, _⟩ := Has.of_own hoJ
      have hby := bytes_any _ AJ _ (64 * 30) LJ kJ wJ.heap.size _ _ wJ ((HII.out.below hbJ).more hbJ.size) hdJ
      rw [eqL_refl] at hby
      have HTJ := Lib.hid (HTI.out.below hbJ)
      clear hoJ hbJ hdJ hLJ
      go_wp2_with fail
      refine hby.mono ?_
      rintro e w' ⟨rfl, rfl⟩
      go_wp2_with fail
      refine (awake8_any _).mono ?_
      rintro e wK ⟨rfl, hbK⟩
      go_wp2
      go_ret
      exact HYES.out _ (HTJ.out.bel.trans (hbK.mono HTJ.out.bel.size))

theorem walkWal (f c ep : Int) (A : Option Addr) (m cap : Nat) (w : World) (h : I64 f ∧ I64 c) (he : (Lit.int .u32 ep).wf = true) (hO : ∃ os, WOpsIn w A m os ∧ m ≤ maxLen) :
    Calls Tryz.prog 3 #[.agg #[.int .i64 f, .int .i64 c], .int .u32 ep, .slice A m cap] w (Yes w) := by
  obtain ⟨os, hos, _⟩ := hO
  have hb := bounds_u32 he
  obtain ⟨e, rfl⟩ := nv_of ep (by omega) (by omega)
  exact wspec_good f c e A m cap os w h.1 h.2 hos
end

end Go.Proofs.YtngomoolmncbaaaGreat
