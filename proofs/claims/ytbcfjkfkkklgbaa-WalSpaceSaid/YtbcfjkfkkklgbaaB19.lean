/-
Contract of Append of the program's log.
The fixed example of the statements of layer 8 (awake) holds.
Arguments that came in: slices of bytes, and slices of such, read.
The walks of WalNone and WalSpace.
-/
import Derived.Test.YtbcfjkfkkklgbaaB18
import Derived.Test.YtbcfjkfkkklgbaaB06
import Derived.Test.YtbcfjkfkkklgbaaB08
import Derived.Deep.SlicePairs
import Derived.Deep.Slices
import Derived.Deep.Fields
import Derived.ChangeSame
import Derived.Test.YtbcfjkfkkklgbaaB05
namespace Go.Proofs.Ytbcfjkfkkklgbaa
section
open Go.RowKit


set_option maxHeartbeats 400000 in
theorem pwapp_nil (A : Option Addr) (len cap : Nat) (w : World) : Calls Try.prog 12 #[.pointer none, .slice A len cap] w fun e w' => e = .returned (.int .i64 12) ∧ w = w' := by
  go_enter Try.func12, Try.ntmps12
  go_wp2_with fail
  refine (pfailed_nil _).mono ?_
  rintro r w1 ⟨rfl, rfl⟩
  go_wp2
  go_ret
  exact ⟨rfl, rfl⟩

set_option maxRecDepth 20000 in
set_option maxHeartbeats 6400000 in
theorem pwapp_any {w : World} {F : Nat → Prop} {a b n : Nat} {S : Dsk} {L : Lg} (h : PD w F a n S) (hl : PL w b a L) (hb : ¬ F b) (hok : L.Ok n) (A : Option Addr) (len cap B : Nat) (d : List UInt8) (hA : Has w B A len (d.map bv)) (hcap : A = none → cap = 0) (hlen : len ≤ 1000000) (hB : B ≤ w.heap.size) :
    Calls Try.prog 12 #[.pointer (some ⟨b, 0, none⟩), .slice A len cap] w (PAppP w F a b n (S.wapp n L d)) := by
  have hfa := pfailed_any hl
  have hbl := hl.lt
  have HB := Lib.hid hb
  have HL := Lib.hid hl
  have HD := Lib.hid h
  have HFl : Hid (∀ x, F x → x < w.heap.size) := h.lt
  have HA := Lib.hid hA
  have hdl : Hid (d.length = len) := hA.from8
  cases hbad : L.bad with
  | true =>
    rw [hbad] at hfa
    have HS := Lib.hid (wapp_bad (S := S) (n := n) (d := d) hbad)
    clear h hl hb hbad hA hok
    go_enter Try.func12, Try.ntmps12
    go_wp2_with fail
    refine hfa.mono ?_
    rintro r w0 ⟨rfl, rfl⟩
    go_wp2
    go_ret
    rw [HS.out]
    exact ⟨F, rfl, HD.out, HL.out, Frm.refl _ _, fun x hx => .inl hx⟩
  | false =>
    rw [hbad] at hfa
    have HBAD := Lib.hid hbad
    obtain ⟨hz, hz0, hz1, hz2, hcn, _⟩ := lg_small h.ok.n4 hok
    have c3 := hl.c3
    have c5 := hl.c5
    have hcnb : (L.cnt : Int) ≤ 300000 := by omega
    obtain ⟨ev, hev⟩ : ∃ z, z = nv L.e := ⟨_, rfl⟩
    obtain ⟨cn, hcne⟩ : ∃ z : Int, z = (L.cnt : Int) := ⟨_, rfl⟩
    have hq := sq_nv L.cnt (by omega)
    rw [← hcne] at hq
    have hcn0 : 0 ≤ cn := by omega
    have hcn1 : cn ≤ 300000 := by omega
    have hwc : IntKind.u32.wrap cn = cn := by rw [IntKind.wrap_u32]; omega
    rw [← hev] at c3
    rw [← hcne] at c5
    have HDd := Lib.hid (h.below ((Below.refl w.heap.size w).drew))
    by_cases hbig : 1024 < len
    · have HS := Lib.hid (wapp_lim (S := S) (n := n) hbad (by rw [hdl.out]; exact hbig))
      have henc := fun v => encode_no L.e (sq L.cnt) A len cap v hbig (by omega)
      rw [← hev, hq] at henc
      clear h hl hb hbad hA hok hz hz0 hz1 hz2 hcn hcnb hev hcne hq
      go_enter Try.func12, Try.ntmps12
      go_wp2_with fail
      refine hfa.mono ?_
      rintro r w0 ⟨rfl, rfl⟩
      clear hfa
      go_wp2
      go_region_held3 (fun W => W.cell? ⟨b, 3, none⟩ = some (.int .u32 ev) ∧ W.cell? ⟨b, 5, none⟩ = some (.int .i64 cn)) (go_keep)
        (first
          | (go_at_call 54
             refine (henc _).mono ?_
             rintro r w' ⟨rfl, rfl⟩))
      go_wp2
      go_ret
      rw [HS.out]
      have hbd := (Below.refl w.heap.size w).drew
      exact ⟨F, rfl, HD.out.below hbd, HL.out.below hbd, Frm.of_below hbd, fun x hx => .inl hx⟩
    · have henc := encode_yes L.e (sq L.cnt) A len cap B d w.drew (HA.out.below ((Below.refl B w).drew)) hcap (by omega) hB
      rw [← hev, hq] at henc
      obtain ⟨M, hM⟩ : ∃ M, M = 14 + len := ⟨_, rfl⟩
      rw [← hM] at henc
      have hM1 : M ≤ 1038 := by omega
      have HME := Lib.hid (show (M : Int) = 14 + (d.length : Int) by rw [hdl.out]; omega)
      have HMN := Lib.hid (show M = 14 + d.length by rw [hdl.out]; exact hM)
      have HNB := Lib.hid (show ¬ 1024 < d.length by rw [hdl.out]; exact hbig)
      have c1 := hl.c1
      have c2 := hl.c2
      have c4 := hl.c4
      have c0 := hl.c0
      have hfree : ∀ v, Below w.heap.size w v → Calls Try.prog 13 #[.pointer (some ⟨b, 0, none⟩)] v fun e w' => e = .returned (.int .i64 (xsize L.c - L.fin)) ∧ Below v.heap.size v w' := fun v hv => pfree_any (hl.below hv) h.ok.n4 hok
      obtain ⟨xz, hxz⟩ : ∃ z, z = xsize L.c := ⟨_, rfl⟩
      rw [← hxz] at hfree hz0 hz1 hz2 hz
      have HXZ := Lib.hid hxz
      obtain ⟨fi, hfi⟩ : ∃ z : Int, z = (L.fin : Int) := ⟨_, rfl⟩
      rw [← hfi] at c4 hz2 hfree
      have HFI := Lib.hid hfi
      have hf0 : 0 ≤ fi := by omega
      have hw : IntKind.i64.wrap (xz - fi) = xz - fi := by rw [IntKind.wrap_i64]; omega
      have HCN := Lib.hid hcne
      have hcc : L.f ≤ 9223372036854775807 := by have := xvalid_parts hok.val; have := h.ok.n4; omega
      obtain ⟨f, hfe⟩ : ∃ z, z = L.f := ⟨_, rfl⟩
      obtain ⟨c, hce⟩ : ∃ z, z = L.c := ⟨_, rfl⟩
      rw [← hfe] at c1 hcc
      rw [← hce] at c2 hz
      have HFE := Lib.hid hfe
      have HCE := Lib.hid hce
      have HFREE := Lib.hid hfree
      clear h hl hb hbad hA hok hz hcn hcnb hev hcne hq hxz hfi hfe hce hM hfree
      go_enter Try.func12, Try.ntmps12
      go_wp2_with fail
      refine hfa.mono ?_
      rintro r w0 ⟨rfl, rfl⟩
      clear hfa
      go_wp2
      go_region_held3 (fun W => W.cell? ⟨b, 3, none⟩ = some (.int .u32 ev) ∧ W.cell? ⟨b, 5, none⟩ = some (.int .i64 cn)) (first | exact ⟨s1, s2⟩ | go_keep)
        (first
          | (go_at_call 54
             refine henc.mono ?_
             rintro r w1 ⟨⟨v1, rfl, hown1⟩, hb1⟩
             obtain ⟨Af, cf, rfl, _, hMc⟩ := Has.of_own hown1
             have HFR := Lib.hid (hasF_own hown1 (fun x hx => HFl.out x hx))
             have HB1 := Lib.hid (show Below w.heap.size w w1 from ((Below.refl w.heap.size w).drew).trans hb1)
             have s1 := (hb1.cell (p := ⟨b, 3, none⟩) (cell_lt (w := w) c3)).trans c3
             have s2 := (hb1.cell (p := ⟨b, 5, none⟩) (cell_lt (w := w) c5)).trans c5
             have d0 := (hb1.cell (p := ⟨b, 0, none⟩) (cell_lt (w := w) c0)).trans c0
             have d1 := (hb1.cell (p := ⟨b, 1, none⟩) (cell_lt (w := w) c1)).trans c1
             have d2 := (hb1.cell (p := ⟨b, 2, none⟩) (cell_lt (w := w) c2)).trans c2
             have d4 := (hb1.cell (p := ⟨b, 4, none⟩) (cell_lt (w := w) c4)).trans c4
             clear hown1 hb1 c0 c1 c2 c4 henc))
      clear c3 c5 s1 s2
      go_wp2_with fail
      refine (HFREE.out w1 HB1.out).mono ?_
      rintro r w2 ⟨rfl, hb2⟩
      have HB2 := Lib.hid hb2
      have s1 := (hb2.cell (p := ⟨b, 1, none⟩) (cell_lt (w := w1) d1)).trans d1
      have s2 := (hb2.cell (p := ⟨b, 2, none⟩) (cell_lt (w := w1) d2)).trans d2
      have s3 := (hb2.cell (p := ⟨b, 4, none⟩) (cell_lt (w := w1) d4)).trans d4
      have s0 := (hb2.cell (p := ⟨b, 0, none⟩) (cell_lt (w := w1) d0)).trans d0
      clear hb2
      have HBW := Lib.hid (HB1.out.trans (HB2.out.mono HB1.out.size))
      have HLW := Lib.hid (HL.out.below HBW.out)
      clear d0 d1 d2 d4
      by_cases hfull : xz - fi < (M : Int)
      · have HS := Lib.hid (wapp_full (S := S) (n := n) HBAD.out HNB.out (by rw [← HXZ.out, ← HFI.out, ← HME.out]; exact hfull))
        go_wp2
        go_ret
        rw [HS.out]
        exact ⟨F, rfl, HD.out.below HBW.out, HLW.out, Frm.of_below HBW.out, fun x hx => .inl hx⟩
      · have HNF := Lib.hid hfull
        have hge : ¬ xz - fi < (M : Int) := hfull
        have hbd := (Below.refl w2.heap.size w2).drew
        have hwr := xwrite_any (HD.out.below (HBW.out.trans (hbd.mono HBW.out.size))) f c fi Af M cf (frameB L.e (sq L.cnt) d) hcc (by omega) (by omega) hMc ((HFR.out.keep (G := F) (Frm.of_below (F := F) HB2.out) (fun x hx => .inl hx)).keep (G := F) (Frm.of_below (F := F) hbd) (fun x hx => .inl hx))
        obtain ⟨T, x, hW⟩ : ∃ T x, S.xwrite n f c fi (frameB L.e (sq L.cnt) d) = (T, x) := ⟨_, _, rfl⟩
        rw [hW] at hwr
        dsimp only at hwr
        have hW2 : S.xwrite n L.f L.c L.fin (frameB L.e (sq L.cnt) d) = (T, x) := by rw [← HFE.out, ← HCE.out, ← HFI.out]; exact hW
        have HW := Lib.hid hW2
        have HBN : Hid (w.heap.size ≤ w2.drew.heap.size) := HBW.out.size
        have HFB := Lib.hid (hbl)
        clear hW hW2 hfull hbd
        go_wp2
        go_region_held3 (fun W => W.cell? ⟨b, 0, none⟩ = some (.pointer (some ⟨a, 0, none⟩)) ∧ W.cell? ⟨b, 1, none⟩ = some (.int .i64 f) ∧ W.cell? ⟨b, 2, none⟩ = some (.int .i64 c) ∧ W.cell? ⟨b, 4, none⟩ = some (.int .i64 fi)) (first | exact ⟨t0, t1, t2, t4⟩ | go_keep)
          (first
            | (go_at_call 40
               refine hwr.mono ?_
               rintro r w3 ⟨rfl, hd3, hf3⟩
               have t0 := (hf3.cell (p := ⟨b, 0, none⟩) (cell_lt s0) HB.out).trans s0
               have t1 := (hf3.cell (p := ⟨b, 1, none⟩) (cell_lt s1) HB.out).trans s1
               have t2 := (hf3.cell (p := ⟨b, 2, none⟩) (cell_lt s2) HB.out).trans s2
               have t4 := (hf3.cell (p := ⟨b, 4, none⟩) (cell_lt s3) HB.out).trans s3
               have HX := Lib.hid (show PD w3 (fun x => F x ∨ newF w2.drew w3 x) a n T ∧ Frm F w w3 ∧ PL w3 b a L from ⟨hd3, (Frm.of_below (HBW.out.trans (((Below.refl w2.heap.size w2).drew).mono HBW.out.size))).trans' hf3, (HLW.out.below ((Below.refl w2.heap.size w2).drew)).keep hf3 HB.out⟩)
               clear hd3 hf3))
        clear s0 s1 s2 s3 t0 t1 t2 t4 hwr
        have HG : Hid (∀ x, (F x ∨ newF w2.drew w3 x) → F x ∨ w.heap.size ≤ x) := fun x hx => hx.imp id fun h => Nat.le_trans HBN.out h.1
        have HGB : Hid (∀ x, x = b → (F x ∨ newF w2.drew w3 x) → False) := fun x e hx => by
          subst e
          rcases hx with hx | hx
          · exact HB.out hx
          · exact Nat.lt_irrefl _ (Nat.lt_of_lt_of_le HFB.out (Nat.le_trans HBN.out hx.1))
        have hl3 := HX.out.2.2
        by_cases hx0 : x = 0
        · subst hx0
          have HS := Lib.hid (wapp_yes HBAD.out HNB.out (by rw [← HXZ.out, ← HFI.out, ← HME.out]; first | exact HNF.out | exact Int.not_lt.2 HNF.out) HW.out)
          have e4 := hl3.c4
          have g4 := hl3.fr 4
          rw [← HFI.out] at e4
          have hsum : fi + (M : Int) ≤ 300000 := by omega
          have hl4 : PL (w3.setCell ⟨b, 4, none⟩ (.int .i64 (fi + (M : Int)))) b a { L with fin := L.fin + (14 + d.length) } := (by have := hl3.setF (L.fin + (14 + d.length)); rwa [show ((L.fin + (14 + d.length) : Nat) : Int) = fi + (M : Int) by rw [HFI.out, HME.out]; simp] at this)
          have e5 := hl4.c5
          have g5 := hl4.fr 5
          have e5' : (w3.setCell ⟨b, 4, none⟩ (.int .i64 (fi + (M : Int)))).cell? ⟨b, 5, none⟩ = some (.int .i64 cn) := by rw [e5, HCN.out]
          have HL4 := Lib.hid hl4
          clear e5 hl3 hl4
          go_wp2
          go_ret
          rw [HS.out]
          refine ⟨fun x => F x ∨ newF w2.drew w3 x, rfl, (HX.out.1.keep (frm_set _ _ _ _) HGB.out).keep (frm_set _ _ _ _) HGB.out, ?_, ?_, HG.out⟩
          · have := HL4.out.setC (L.cnt + 1)
            rwa [show ((L.cnt + 1 : Nat) : Int) = cn + 1 by rw [HCN.out]; simp] at this
          · exact ((HX.out.2.1.more (fun x hx _ => .inl hx)).trans (frm_set _ _ _ _) (fun x e => .inl (.inr e))).trans (frm_set _ _ _ _) (fun x e => .inl (.inr e))
        · have HS := Lib.hid (wapp_err HBAD.out HNB.out (by rw [← HXZ.out, ← HFI.out, ← HME.out]; first | exact HNF.out | exact Int.not_lt.2 HNF.out) HW.out hx0)
          have hne : (x != 0) = true := by simp [hx0]
          have HNZ := Lib.hid hx0
          clear hl3 hx0
          go_wp2_with fail
          refine (pfail_any HX.out.2.2 x HNZ.out).mono ?_
          rintro r w4 ⟨rfl, hl4, hf4⟩
          have HY := Lib.hid (And.intro hl4 hf4)
          clear hl4 hf4
          go_wp2
          go_ret
          rw [HS.out]
          refine ⟨fun x => F x ∨ newF w2.drew w3 x, rfl, HX.out.1.keep HY.out.2 HGB.out, HY.out.1, ?_, HG.out⟩
          exact (HX.out.2.1.more (fun x hx _ => .inl hx)).trans HY.out.2 (fun x e => .inl (.inr e))
end

section
open Go.RowKit

def wk0 : WOp := (Dsk.fresh st0).wopen 2 0 2 1#32
def wkL : Lg := ⟨1#32, 0, 2, 0, 0, 0, false⟩
def wkd : List UInt8 := List.replicate 40 0
def wk1 : Dsk × Int × Lg := wk0.S.wapp 2 wkL wkd
def wkL1 : Lg := ⟨1#32, 0, 2, 54, 1, 0, false⟩
def wk2 : Dsk × Int × Lg := wk1.1.wapp 2 wkL1 wkd
def wkL2 : Lg := ⟨1#32, 0, 2, 108, 2, 0, false⟩
def wk3 : Dsk × Int × Lg := wk2.1.wapp 2 wkL2 wkd
def wk4 : Dsk × Int × Lg := wk3.1.wsync wkL2
def wkL4 : Lg := ⟨1#32, 0, 2, 108, 2, 2, false⟩
theorem wk0_e : wk0.err = 0 := by kernel_rfl
theorem wk0_L : wk0.L = some wkL := by kernel_rfl
theorem wk0_p : wk0.ps = [] := by kernel_rfl
theorem wk1_e : wk1.2.1 = 0 := by kernel_rfl
theorem wk1_L : wk1.2.2 = wkL1 := by kernel_rfl
theorem wk2_e : wk2.2.1 = 0 := by kernel_rfl
theorem wk2_L : wk2.2.2 = wkL2 := by kernel_rfl
theorem wk3_e : wk3.2.1 = 11 := by kernel_rfl
theorem wk3_L : wk3.2.2 = wkL2 := by kernel_rfl
theorem wk4_e : wk4.2.1 = 0 := by kernel_rfl
theorem wk4_L : wk4.2.2 = wkL4 := by kernel_rfl

theorem nv_1 : nv 1#32 = 1 := by unfold nv; rfl
theorem has_zrow {w : World} {g n : Nat} (h : Row w g 5 (zeros n)) : Has w w.heap.size (some ⟨g, 0, none⟩) n ((List.replicate n (0 : UInt8)).map bv) := by
  have hz : zeros n = ((List.replicate n (0 : UInt8)).map bv).toArray := by simp [zeros, bv]
  unfold Row at h
  rw [hz] at h
  exact has_row8 h (by simp)

set_option maxRecDepth 20000 in
set_option maxHeartbeats 6400000 in
theorem awake8_any (w : World) : Calls Try.prog 9 #[] w (Yes w) := by
  have hnew : Calls Try.prog 10 #[.int .i64 2] w fun e w' => ∃ a, e = .returned (.tuple #[.pointer (some ⟨a, 0, none⟩), .int .i64 0]) ∧ w.heap.size ≤ a ∧ PD w' (newF w w') a 2 (Dsk.fresh st0) ∧ Below w.heap.size w w' := new_yes 2 w (by omega) (by omega)
  go_enter Try.func9, Try.ntmps9
  go_wp2_with fail
  refine hnew.mono ?_
  rintro r w1 ⟨a, rfl, _, hd0, hb0⟩
  have hop := pwopen_any hd0 0 2 1#32 (by omega)
  rw [nv_1] at hop
  have hok0 := wopen_ok hd0.ok wk0_L
  have HLo : Hid (∀ x, newF w w1 x → w.heap.size ≤ x) := fun x hx => hx.1
  have HB := Lib.hid hb0
  clear hnew hb0 hd0
  go_wp2_with fail
  refine hop.mono ?_
  rintro r w2 ⟨G1, pv, lv, rfl, hd1, hf1, hG1, hpl, ⟨Ap, cp, vsp, rfl, _, _, _, _⟩⟩
  rw [show ((Dsk.fresh st0).wopen 2 0 2 1#32).err = 0 from wk0_e, show ((Dsk.fresh st0).wopen 2 0 2 1#32).ps = [] from wk0_p]
  obtain ⟨b, rfl, hp1, hbl, hn1⟩ : ∃ b, pv = .pointer (some ⟨b, 0, none⟩) ∧ PL w2 b a wkL ∧ w1.heap.size ≤ b ∧ ¬ G1 b := by
    rcases hpl with ⟨e, _⟩ | ⟨L, b, e, h1, h2, h3, h4⟩
    · rw [show ((Dsk.fresh st0).wopen 2 0 2 1#32).L = some wkL from wk0_L] at e; cases e
    · rw [show ((Dsk.fresh st0).wopen 2 0 2 1#32).L = some wkL from wk0_L] at e
      injection e with e
      subst e
      exact ⟨b, h1, h2, h3, h4⟩
  have HD1 : Hid (PD w2 G1 a 2 wk0.S) := hd1
  have HP1 := Lib.hid hp1
  have HN1 := Lib.hid hn1
  have HK1 : Hid (Lg.Ok 2 wkL) := hok0.1
  have HB1 := Lib.hid (HB.out.trans (hf1.below HLo.out HB.out.size))
  have HLo1 : Hid (∀ x, G1 x → w.heap.size ≤ x) := fun x hx => (hG1 x hx).elim (HLo.out x) (fun g => Nat.le_trans HB.out.size g)
  have HLb : Hid (w.heap.size ≤ b) := Nat.le_trans HB.out.size hbl
  clear hop hd1 hf1 hG1 hpl hp1 hn1 hok0 hbl
  go_wp2_with (at_make; refine wpList_wanted (by exact rfl) ?_; refine wpList_make_bytes _ rfl _ _ (by exact rfl) 40 (by exact rfl) (by exact rfl) (by omega) ?_; intro w2m g1 hg0 hg1 hrow1 hgr1)
  have hbm1 : Below w2.heap.size w2 w2m := (Below.refl _ _).grown hgr1 (Nat.le_refl _) (fun k e => by cases e)
  have happ1 := pwapp_any (HD1.out.below hbm1) (HP1.out.below hbm1) HN1.out HK1.out (some ⟨g1, 0, none⟩) 40 40 _ wkd (has_zrow hrow1) (by intro e; cases e) (by omega) (Nat.le_refl _)
  refine happ1.mono ?_
  rintro r w3 ⟨G2, rfl, hd2, hp2, hf2, hG2⟩
  rw [show (wk0.S.wapp 2 wkL wkd).2.1 = 0 from wk1_e]
  have HD2 : Hid (PD w3 G2 a 2 wk1.1) := hd2
  have HP2 : Hid (PL w3 b a wkL1) := by have := hp2; rwa [show (wk0.S.wapp 2 wkL wkd).2.2 = wkL1 from wk1_L] at this
  have HN2 : Hid (¬ G2 b) := fun hb => (hG2 b hb).elim HN1.out (fun g => Nat.lt_irrefl _ (Nat.lt_of_lt_of_le ((HP1.out.below hbm1).lt) g))
  have HK2 : Hid (Lg.Ok 2 wkL1) := by have := wapp_ok (S := wk0.S) (n := 2) (by omega) HK1.out wkd; rwa [show (wk0.S.wapp 2 wkL wkd).2.2 = wkL1 from wk1_L] at this
  have HB2 := Lib.hid (HB1.out.trans ((hbm1.mono HB1.out.size).trans (hf2.below (fun x hx => hx.elim (HLo1.out x) (fun e => e ▸ HLb.out)) (Nat.le_trans HB1.out.size hbm1.size))))
  have HLo2 : Hid (∀ x, G2 x → w.heap.size ≤ x) := fun x hx => (hG2 x hx).elim (HLo1.out x) (fun g => Nat.le_trans (Nat.le_trans HB1.out.size hbm1.size) g)
  clear happ1 hd2 hp2 hf2 hG2 hbm1 hrow1 hgr1 hg0 hg1
  go_wp2_with (at_make; refine wpList_wanted (by exact rfl) ?_; refine wpList_make_bytes _ rfl _ _ (by exact rfl) 40 (by exact rfl) (by exact rfl) (by omega) ?_; intro w3m g2 hg0 hg1 hrow2 hgr2)
  have hbm2 : Below w3.heap.size w3 w3m := (Below.refl _ _).grown hgr2 (Nat.le_refl _) (fun k e => by cases e)
  have happ2 := pwapp_any (HD2.out.below hbm2) (HP2.out.below hbm2) HN2.out HK2.out (some ⟨g2, 0, none⟩) 40 40 _ wkd (has_zrow hrow2) (by intro e; cases e) (by omega) (Nat.le_refl _)
  refine happ2.mono ?_
  rintro r w4 ⟨G3, rfl, hd3, hp3, hf3, hG3⟩
  rw [show (wk1.1.wapp 2 wkL1 wkd).2.1 = 0 from wk2_e]
  have HD3 : Hid (PD w4 G3 a 2 wk2.1) := hd3
  have HP3 : Hid (PL w4 b a wkL2) := by have := hp3; rwa [show (wk1.1.wapp 2 wkL1 wkd).2.2 = wkL2 from wk2_L] at this
  have HN3 : Hid (¬ G3 b) := fun hb => (hG3 b hb).elim HN2.out (fun g => Nat.lt_irrefl _ (Nat.lt_of_lt_of_le ((HP2.out.below hbm2).lt) g))
  have HK3 : Hid (Lg.Ok 2 wkL2) := by have := wapp_ok (S := wk1.1) (n := 2) (by omega) HK2.out wkd; rwa [show (wk1.1.wapp 2 wkL1 wkd).2.2 = wkL2 from wk2_L] at this
  have HB3 := Lib.hid (HB2.out.trans ((hbm2.mono HB2.out.size).trans (hf3.below (fun x hx => hx.elim (HLo2.out x) (fun e => e ▸ HLb.out)) (Nat.le_trans HB2.out.size hbm2.size))))
  have HLo3 : Hid (∀ x, G3 x → w.heap.size ≤ x) := fun x hx => (hG3 x hx).elim (HLo2.out x) (fun g => Nat.le_trans (Nat.le_trans HB2.out.size hbm2.size) g)
  clear happ2 hd3 hp3 hf3 hG3 hbm2 hrow2 hgr2 hg0 hg1
  go_wp2_with (at_make; refine wpList_wanted (by exact rfl) ?_; refine wpList_make_bytes _ rfl _ _ (by exact rfl) 40 (by exact rfl) (by exact rfl) (by omega) ?_; intro w4m g3 hg0 hg1 hrow3 hgr3)
  have hbm3 : Below w4.heap.size w4 w4m := (Below.refl _ _).grown hgr3 (Nat.le_refl _) (fun k e => by cases e)
  have happ3 := pwapp_any (HD3.out.below hbm3) (HP3.out.below hbm3) HN3.out HK3.out (some ⟨g3, 0, none⟩) 40 40 _ wkd (has_zrow hrow3) (by intro e; cases e) (by omega) (Nat.le_refl _)
  refine happ3.mono ?_
  rintro r w5 ⟨G4, rfl, hd4, hp4, hf4, hG4⟩
  rw [show (wk2.1.wapp 2 wkL2 wkd).2.1 = 11 from wk3_e]
  have HD4 : Hid (PD w5 G4 a 2 wk3.1) := hd4
  have HP4 : Hid (PL w5 b a wkL2) := by have := hp4; rwa [show (wk2.1.wapp 2 wkL2 wkd).2.2 = wkL2 from wk3_L] at this
  have HN4 : Hid (¬ G4 b) := fun hb => (hG4 b hb).elim HN3.out (fun g => Nat.lt_irrefl _ (Nat.lt_of_lt_of_le ((HP3.out.below hbm3).lt) g))
  have HK4 : Hid (Lg.Ok 2 wkL2) := by have := wapp_ok (S := wk2.1) (n := 2) (by omega) HK3.out wkd; rwa [show (wk2.1.wapp 2 wkL2 wkd).2.2 = wkL2 from wk3_L] at this
  have HB4 := Lib.hid (HB3.out.trans ((hbm3.mono HB3.out.size).trans (hf4.below (fun x hx => hx.elim (HLo3.out x) (fun e => e ▸ HLb.out)) (Nat.le_trans HB3.out.size hbm3.size))))
  have HLo4 : Hid (∀ x, G4 x → w.heap.size ≤ x) := fun x hx => (hG4 x hx).elim (HLo3.out x) (fun g => Nat.le_trans (Nat.le_trans HB3.out.size hbm3.size) g)
  clear happ3 hd4 hp4 hf4 hG4 hbm3 hrow3 hgr3 hg0 hg1
  have hfr := pfree_any HP4.out (by omega) HK4.out
  rw [show xsize wkL2.c - (wkL2.fin : Int) = 20 from by kernel_rfl] at hfr
  go_wp2_with fail
  refine hfr.mono ?_
  rintro r w6 ⟨rfl, hb6⟩
  have HD6 := Lib.hid (HD4.out.below hb6)
  have HP6 := Lib.hid (HP4.out.below hb6)
  have HB6 := Lib.hid (HB4.out.trans (hb6.mono HB4.out.size))
  clear hfr hb6
  go_wp2_with fail
  refine (precords_any HP6.out).mono ?_
  rintro r w' ⟨rfl, rfl⟩
  rw [show ((wkL2.cnt : Nat) : Int) = 2 from rfl]
  go_wp2_with fail
  refine (psynced_any HP6.out).mono ?_
  rintro r w' ⟨rfl, rfl⟩
  rw [show ((wkL2.syn : Nat) : Int) = 0 from rfl]
  have hsy := plsync_any HD6.out HP6.out HN4.out
  go_wp2_with fail
  refine hsy.mono ?_
  rintro r w7 ⟨G7, rfl, hd7, hp7, hf7, hG7⟩
  rw [show (wk3.1.wsync wkL2).2.1 = 0 from wk4_e]
  have HP7 : Hid (PL w7 b a wkL4) := by have := hp7; rwa [show (wk3.1.wsync wkL2).2.2 = wkL4 from wk4_L] at this
  have HB7 := Lib.hid (HB6.out.trans (hf7.below (fun x hx => hx.elim (HLo4.out x) (fun e => e ▸ HLb.out)) HB6.out.size))
  clear hsy hd7 hp7 hf7 hG7
  go_wp2_with fail
  refine (psynced_any HP7.out).mono ?_
  rintro r w' ⟨rfl, rfl⟩
  rw [show ((wkL4.syn : Nat) : Int) = 2 from rfl]
  go_wp2
  go_ret
  exact ⟨rfl, HB7.out⟩
end

section
open Go.RowKit Go.ChangeShapes Go.WideShapes Go.Deep

section
variable {H : Type} {enc : TypeId × Value → H} {w : World} {held : Bool}
theorem spotL_of {a : Addr} {v : Value} (h : w.cell? (a.add 0) = some v) : a = ⟨a.block, a.off, none⟩ ∧ a.block < w.heap.size := by
  have hx0 : a.add 0 = a := by unfold Addr.add; simp
  rw [hx0] at h
  unfold World.cell? at h
  split at h
  · rename_i hh
    by_cases hs : a.spot.isSome = true
    · rw [if_pos hs] at h; cases h
    · have hn : a.spot = none := by simpa using hs
      exact ⟨by cases a; simp_all, (Array.getElem?_eq_some_iff.1 hh).1⟩
  · cases h
theorem addL_flat (b off j : Nat) : (⟨b, off, none⟩ : Addr).add j = ⟨b, off + j, none⟩ := by unfold Addr.add; split <;> simp_all
theorem opn8 {fuel : Nat} {A : Option Addr} {n c : Nat} {x : DataW H × List MemPlace} (h : DataW.trod enc Try.prog w 0 (fun _ => true) held fuel 34 [.slice A n c] = some x) : ∃ l, Arg8 w A n c l := by
  rcases open_ints tyBs tyU8 (by kernel_rfl) h with ⟨hcs, _⟩ | ⟨y, l, c', zs, hcs, _, hl, hm, hz, _, hcell, hwz⟩
  · simp at hcs
    obtain ⟨rfl, rfl, rfl⟩ := hcs
    exact arg8_of (zs := []) (.inl ⟨rfl, rfl, rfl, rfl⟩)
  · simp at hcs
    obtain ⟨rfl, rfl, rfl⟩ := hcs
    exact arg8_of (zs := zs) (.inr ⟨_, rfl, hl, hm, by simpa using hz, hcell, hwz⟩)
theorem slice_val {t e : TypeId} (ht : Try.prog.underlying t = some (.slice e)) {fuel : Nat} {v : Value} {x : DataW H × List MemPlace} (h : DataW.trod enc Try.prog w 0 (fun _ => true) held fuel t [v] = some x) : ∃ A n c, v = .slice A n c := by
  rcases open_slice ht h with ⟨hcs, _⟩ | ⟨a, len, cap, _, _, _, _, hcs, _⟩
  · simp at hcs; exact ⟨_, _, _, hcs⟩
  · simp at hcs; exact ⟨_, _, _, hcs⟩

/-- Slices of bytes that came in. -/
def In2 (w : World) (A : Option Addr) (n : Nat) (vs : List Value) (ps : List (List UInt8)) : Prop :=
  Has w w.heap.size A n vs ∧ vs.length = ps.length ∧ ∀ (i : Nat) (v : Value) (p : List UInt8), vs[i]? = some v → ps[i]? = some p → ∃ A' c', v = .slice A' p.length c' ∧ Arg8 w A' p.length c' p
theorem opn_lists {fuel : Nat} {A : Option Addr} {n c : Nat} {x : DataW H × List MemPlace} (h : DataW.trod enc Try.prog w 0 (fun _ => true) held fuel 22 [.slice A n c] = some x) : ∃ vs ps, In2 w A n vs ps := by
  rcases open_slice tyBss h with ⟨hcs, _⟩ | ⟨a, len, cap, m, q, D, Pl, hcs, _, hl, hm, hmm, _, hx⟩
  · simp at hcs
    obtain ⟨rfl, rfl, rfl⟩ := hcs
    exact ⟨[], [], Has.nil _ _ _, rfl, fun i v p h => by simp at h⟩
  · simp at hcs
    obtain ⟨rfl, rfl, rfl⟩ := hcs
    have hC : Try.prog.cellsOf 34 = 1 := by kernel_rfl
    have hnm : n ≤ m := by rw [hmm]; simp; omega
    have each : ∀ i, i < m → ∃ x : Value × List UInt8, w.cell? (a.add i) = some x.1 ∧ ∃ A' c', x.1 = .slice A' x.2.length c' ∧ Arg8 w A' x.2.length c' x.2 := by
      intro i hi
      obtain ⟨cs', hc, ht'⟩ := hx i hi
      rw [hC] at hc
      obtain ⟨_, hcl, hat⟩ := World.cells?_some hc
      obtain ⟨v, rfl⟩ := List.length_eq_one_iff.1 hcl
      have e0 := hat 0 (by omega)
      rw [Go.Deep.add_add] at e0
      obtain ⟨A', n', c', rfl⟩ := slice_val tyBs ht'
      obtain ⟨l, hl8⟩ := opn8 ht'
      obtain rfl : l.length = n' := hl8.len
      exact ⟨(_, l), by simpa using e0, A', c', rfl, hl8⟩
    have hall : ∃ f : Nat → Value × List UInt8, ∀ i, i < m → w.cell? (a.add i) = some (f i).1 ∧ ∃ A' c', (f i).1 = .slice A' (f i).2.length c' ∧ Arg8 w A' (f i).2.length c' (f i).2 := by
      refine ⟨fun i => if hi : i < m then Classical.choose (each i hi) else (.slice none 0 0, []), fun i hi => ?_⟩
      simp only [dif_pos hi]
      exact Classical.choose_spec (each i hi)
    obtain ⟨f, hf⟩ := hall
    refine ⟨(List.range n).map fun i => (f i).1, (List.range n).map fun i => (f i).2, ⟨by simp, fun h0 => ?_⟩, by simp, fun i v p h1 h2 => ?_⟩
    · obtain ⟨ea, hlt⟩ := spotL_of (a := a) (hf 0 (by omega)).1
      refine ⟨a.block, a.off, by rw [← ea], hlt, fun j hj => ?_⟩
      have hj' : j < n := by simpa using hj
      have g1 := (hf j (by omega)).1
      rw [ea, addL_flat] at g1
      simp only [List.getElem_map, List.getElem_range]
      exact g1
    · have hi : i < n := by have := (List.getElem?_eq_some_iff.1 h1).1; simpa using this
      simp only [List.getElem?_map, List.getElem?_range hi, Option.map_some, Option.some.injEq] at h1 h2
      subst h1 h2
      exact (hf i (by omega)).2
end

theorem In2.at_ {w : World} {A : Option Addr} {n : Nat} {vs : List Value} {ps : List (List UInt8)} (h : In2 w A n vs ps) {k : Nat} (hk : k < ps.length) :
    ∃ b off X c, A = some ⟨b, off, none⟩ ∧ b < w.heap.size ∧ w.cell? ⟨b, off + k, none⟩ = some (.slice X ps[k].length c) ∧ Arg8 w X ps[k].length c ps[k] := by
  obtain ⟨hA, hl, hh⟩ := h
  have hkv : k < vs.length := by rw [hl]; exact hk
  have hn : k < n := by rw [← hA.1]; exact hkv
  obtain ⟨b, off, e, hb, hc⟩ := hA.at_ hn
  obtain ⟨X, c, hv, h8⟩ := hh k vs[k] ps[k] (List.getElem?_eq_getElem hkv) (List.getElem?_eq_getElem hk)
  rw [hv] at hc
  exact ⟨b, off, X, c, e, hb, hc, h8⟩
theorem In2.many {w : World} {A : Option Addr} {n : Nat} {vs : List Value} {ps : List (List UInt8)} (h : In2 w A n vs ps) : ManyH w vs ps :=
  ⟨h.2.1, fun i v p h1 h2 => by
    obtain ⟨A', c', e, h8⟩ := h.2.2 i v p h1 h2
    exact ⟨A', c', e, h8.2.2.2, h8.2.1, h8.1⟩⟩
end

section
open Go.RowKit

set_option maxHeartbeats 1600000 in
theorem walkNone8 (A : Option Addr) (len cap : Nat) (zs : List Int) (w : World) (_ : In8 w A len cap zs) :
    Calls Try.prog 4 #[.slice A len cap] w (Yes w) := by
  by_cases hlen : (2000 : Int) < (len : Int)
  · go_enter Try.func4, Try.ntmps4
    go_wp2_with (go_at_call 9; refine (awake8_any _).mono ?_; rintro e w2 ⟨rfl, hb2⟩)
    go_ret
    exact ⟨rfl, hb2⟩
  · go_enter Try.func4, Try.ntmps4
    go_wp2_with (first
      | (go_at_call 12; refine (pwapp_nil _ _ _ _).mono ?_; rintro e w' ⟨rfl, rfl⟩)
      | (go_at_call 16; refine (plsync_nil _).mono ?_; rintro e w' ⟨rfl, rfl⟩)
      | (go_at_call 15; refine (pfailed_nil _).mono ?_; rintro e w' ⟨rfl, rfl⟩)
      | (go_at_call 14; refine (precords_nil _).mono ?_; rintro e w' ⟨rfl, rfl⟩)
      | (go_at_call 17; refine (psynced_nil _).mono ?_; rintro e w' ⟨rfl, rfl⟩)
      | (go_at_call 13; refine (pfree_nil _).mono ?_; rintro e w' ⟨rfl, rfl⟩)
      | (go_at_call 9; refine (awake8_any _).mono ?_; rintro e w2 ⟨rfl, hb2⟩))
    go_ret
    exact ⟨rfl, hb2⟩

/-- How far the records have been appended. -/
structure SpIn (w x : World) (a b N : Nat) (T : Dsk) (L : Lg) (G : Nat → Prop) : Prop where
  d : PD x G a N T
  p : PL x b a L
  nb : ¬ G b
  lo : ∀ y, G y → w.heap.size ≤ y
  lb : w.heap.size ≤ b
  bel : Below w.heap.size w x
  q : Quiet T
  ok : L.Ok N
  bad : L.bad = false
  c : L.c = (N : Int)
theorem SpIn.below {w x y : World} {a b N : Nat} {T : Dsk} {L : Lg} {G : Nat → Prop} (h : SpIn w x a b N T L G) (hb : Below x.heap.size x y) : SpIn w y a b N T L G :=
  ⟨h.d.below hb, h.p.below hb, h.nb, h.lo, h.lb, h.bel.trans (hb.mono h.bel.size), h.q, h.ok, h.bad, h.c⟩
theorem nv_3 : nv 3#32 = 3 := by unfold nv; rfl

set_option maxRecDepth 20000 in
set_option maxHeartbeats 12800000 in
theorem space_good (N : Nat) (A : Option Addr) (m cap : Nat) (vs : List Value) (ps : List (List UInt8)) (w : World) (h1 : 1 ≤ N) (h40 : N ≤ 40) (hm : m ≤ 40) (hin : Has w w.heap.size A m vs ∧ vs.length = ps.length ∧ ∀ (i : Nat) (v : Value) (p : List UInt8), vs[i]? = some v → ps[i]? = some p → ∃ A' c', v = .slice A' p.length c' ∧ Arg8 w A' p.length c' p) :
    Calls Try.prog 3 #[.int .i64 (N : Int), .slice A m cap] w (Yes w) := by
  have HPL := Lib.hid (show ps.length = m by rw [← hin.2.1]; exact hin.1.1)
  have HI := Lib.hid hin
  have hnew := new_yes N w h1 (by omega)
  obtain ⟨T0, hfr, hq0⟩ := wopen_fresh N h1 (by omega) 3#32
  have hok := Dsk.Ok.fresh h1 (by omega) (st0_len N)
  have hLok := (wopen_ok (S := Dsk.fresh st0) hok (by rw [hfr])).1
  have g1 : ¬ (N : Int) < 1 := by omega
  have g2 : ¬ (40 : Int) < (N : Int) := by omega
  have g3 : ¬ (40 : Int) < (m : Int) := by omega
  have g4 : (N : Int) ≤ 40 := by omega
  have hN1 := Lib.hid (And.intro h1 h40)
  clear hin h1 h40 hm hok
  go_enter Try.func3, Try.ntmps3
  go_wp2_with fail
  refine hnew.mono ?_
  rintro r w1 ⟨a, rfl, _, hd0, hb0⟩
  have hop := pwopen_any hd0 0 (N : Int) 3#32 (by omega)
  rw [nv_3, hfr] at hop
  have HB := Lib.hid hb0
  clear hnew hb0 hd0 hfr
  go_wp2_with fail
  refine hop.mono ?_
  rintro r w2 ⟨G1, pv, lv, rfl, hd1, hf1, hG1, hpl, ⟨Ap, cp, vsp, rfl, _, _, _, _⟩⟩
  obtain ⟨b, rfl, hp1, hbl, hn1⟩ : ∃ b, pv = .pointer (some ⟨b, 0, none⟩) ∧ PL w2 b a ⟨3#32, 0, N, 0, 0, 0, false⟩ ∧ w1.heap.size ≤ b ∧ ¬ G1 b := by
    rcases hpl with ⟨e, _⟩ | ⟨L, b, e, h1, h2, h3, h4⟩
    · cases e
    · injection e with e
      subst e
      exact ⟨b, h1, h2, h3, h4⟩
  have HS0 : Hid (∃ T L G, SpIn w w2 a b N T L G ∧ L.fin = 0 ∧ L.cnt = 0) := ⟨T0, _, G1, ⟨hd1, hp1, hn1, fun x hx => (hG1 x hx).elim (fun h => h.1) (fun g => Nat.le_trans HB.out.size g), Nat.le_trans HB.out.size hbl, HB.out.trans (hf1.below (fun x hx => hx.1) HB.out.size), hq0, hLok, rfl, rfl⟩, rfl, rfl⟩
  clear hop hd1 hf1 hG1 hpl hp1 hbl hn1 hq0 hLok
  go_wp2
  go_loopw [9, 10, 11] (fun fv nv iv wr => ∃ (k cn : Nat) (fr : Int), k ≤ m ∧ cn ≤ 300000 ∧ 0 ≤ fr ∧ fr ≤ 2560 ∧ iv = .int .i64 k ∧ nv = .int .i64 cn ∧ fv = .int .i64 fr ∧ Hid (∃ T L G, SpIn w wr a b N T L G ∧ xsize L.c - L.fin = fr ∧ L.cnt = cn)) (fun _ _ iv _ => m - (RowKit.intOf iv).toNat)
  case atStart =>
    obtain ⟨T, L, G, hs, e1, e2⟩ := HS0.out
    exact ⟨0, 0, (N : Int) * 64, Nat.zero_le _, Nat.zero_le _, by omega, by omega, rfl, rfl, rfl, T, L, G, hs, by rw [(lg_small (n := N) (by have := hN1.out; omega) hs.ok).1, hs.c, e1]; simp, e2⟩
  case round =>
    obtain ⟨k, cn, fr, hk, hcn, hf0, hf1, rfl, rfl, rfl, HR⟩ := hrel
    by_cases hlt : k < m
    · have hkp : k < ps.length := by rw [HPL.out]; exact hlt
      obtain ⟨T, L, G, hs, hfr, hcnt⟩ := HR.out
      obtain ⟨b0, off, X, c, rfl, hbl, hc, h8⟩ := In2.at_ HI.out hkp
      have hcw : wr.cell? ⟨b0, off + k, none⟩ = some (.slice X ps[k].length c) := (hs.bel.cell hbl).trans hc
      generalize ps[k] = p at hcw h8
      obtain ⟨P, hP⟩ : ∃ P, P = p.length := ⟨_, rfl⟩
      rw [← hP] at hcw
      have HP := Lib.hid hP
      have H8 := Lib.hid h8
      have HSP := Lib.hid hs
      have HFR := Lib.hid hfr
      have HCT := Lib.hid hcnt
      clear hs hfr hcnt HR hc h8 hbl hP HS0
      by_cases hbig : (1024 : Int) < (P : Int)
      · go_wp2
        go_roundw
        case rel => exact ⟨k + 1, cn, fr, by omega, hcn, hf0, hf1, by go_num, rfl, rfl, T, L, G, HSP.out, HFR.out, HCT.out⟩
        case measure => simp [RowKit.intOf]; omega
      · have hPb : P ≤ 1024 := by omega
        have hap := pwapp_any HSP.out.d HSP.out.p HSP.out.nb HSP.out.ok X P c _ p (by rw [HP.out]; exact H8.out.1.below' HSP.out.bel (Nat.le_refl _)) H8.out.2.2.2 (by omega) HSP.out.bel.size
        by_cases hfull : fr < 14 + (P : Int)
        · have hr := wapp_full (S := T) (n := N) HSP.out.bad (d := p) (by rw [← HP.out]; omega) (by rw [HFR.out, ← HP.out]; exact hfull)
          rw [hr] at hap
          clear hr
          go_wp2_with fail
          refine hap.mono ?_
          rintro r w3 ⟨G3, rfl, hd3, hp3, hf3, hG3⟩
          have HSQ : Hid (SpIn w w3 a b N T L G3) := ⟨hd3, hp3, fun hx => (hG3 b hx).elim HSP.out.nb (fun g => Nat.lt_irrefl _ (Nat.lt_of_lt_of_le (HSP.out.p.lt) g)), fun x hx => (hG3 x hx).elim (HSP.out.lo x) (fun g => Nat.le_trans HSP.out.bel.size g), HSP.out.lb,
            HSP.out.bel.trans (hf3.below (fun x hx => hx.elim (HSP.out.lo x) (fun e => e ▸ HSP.out.lb)) HSP.out.bel.size), HSP.out.q, HSP.out.ok, HSP.out.bad, HSP.out.c⟩
          clear hd3 hp3 hf3 hG3 hap
          have HFR2 := HFR
          have HCT2 : Hid ((L.cnt : Int) = (cn : Int)) := by show _ = _; rw [HCT.out]
          have hfre := pfree_any HSQ.out.p (by have := hN1.out; omega) HSQ.out.ok
          rw [HFR2.out] at hfre
          have HRC := fun v (hv : Below w3.heap.size w3 v) => precords_any (HSQ.out.p.below hv)
          have HFA := fun v (hv : Below w3.heap.size w3 v) => pfailed_any (HSQ.out.p.below hv)
          rw [HCT2.out] at HRC
          rw [HSQ.out.bad] at HFA
          go_wp2_with fail
          refine hfre.mono ?_
          rintro r w4 ⟨rfl, hb4⟩
          have HSR := Lib.hid (HSQ.out.below hb4)
          go_wp2_with fail
          refine (HRC w4 hb4).mono ?_
          rintro r w' ⟨rfl, rfl⟩
          go_wp2_with fail
          refine (HFA w4 hb4).mono ?_
          rintro r w' ⟨rfl, rfl⟩
          clear HRC HFA hfre hb4
          go_wp2
          go_roundw
          case rel => exact ⟨k + 1, cn, fr, by omega, by omega, by omega, by omega, by go_num, rfl, rfl, T, L, G3, HSR.out, HFR.out, HCT.out⟩
          case measure => simp [RowKit.intOf]; omega
        · obtain ⟨T', hr, hq'⟩ := wapp_quiet (n := N) HSP.out.q HSP.out.d.ok HSP.out.ok HSP.out.bad (d := p) (by rw [← HP.out]; exact hPb) (by rw [HFR.out, ← HP.out]; exact hfull)
          have hok' := wapp_ok (S := T) (by have := hN1.out; omega) HSP.out.ok p
          rw [hr] at hap hok'
          have HFR2 : Hid (xsize L.c - ((L.fin + (14 + p.length) : Nat) : Int) = fr - (14 + (P : Int))) := by show _ = _; rw [← HFR.out, HP.out]; omega
          have HCT2 : Hid (((L.cnt + 1 : Nat) : Int) = (cn : Int) + 1) := by show _ = _; rw [← HCT.out]; omega
          have HCT3 : Hid (L.cnt + 1 = cn + 1) := by show _ = _; rw [HCT.out]
          have hcn2 : cn + 1 ≤ 300000 := by
            have h1 := (lg_small (by have := hN1.out; omega) HSP.out.ok)
            have := HCT.out
            omega
          have HQ := Lib.hid hq'
          have HOK := Lib.hid hok'
          clear hr hq' hok'
          go_wp2_with fail
          refine hap.mono ?_
          rintro r w3 ⟨G3, rfl, hd3, hp3, hf3, hG3⟩
          have HSQ : Hid (SpIn w w3 a b N T' { L with fin := L.fin + (14 + p.length), cnt := L.cnt + 1 } G3) := ⟨hd3, hp3, fun hx => (hG3 b hx).elim HSP.out.nb (fun g => Nat.lt_irrefl _ (Nat.lt_of_lt_of_le (HSP.out.p.lt) g)), fun x hx => (hG3 x hx).elim (HSP.out.lo x) (fun g => Nat.le_trans HSP.out.bel.size g), HSP.out.lb,
            HSP.out.bel.trans (hf3.below (fun x hx => hx.elim (HSP.out.lo x) (fun e => e ▸ HSP.out.lb)) HSP.out.bel.size), HQ.out, HOK.out, HSP.out.bad, HSP.out.c⟩
          clear hd3 hp3 hf3 hG3 hap
          have hfre := pfree_any HSQ.out.p (by have := hN1.out; omega) HSQ.out.ok
          rw [HFR2.out] at hfre
          have HRC := fun v (hv : Below w3.heap.size w3 v) => precords_any (HSQ.out.p.below hv)
          have HFA := fun v (hv : Below w3.heap.size w3 v) => pfailed_any (HSQ.out.p.below hv)
          rw [HCT2.out] at HRC
          rw [HSQ.out.bad] at HFA
          go_wp2_with fail
          refine hfre.mono ?_
          rintro r w4 ⟨rfl, hb4⟩
          have HSR := Lib.hid (HSQ.out.below hb4)
          go_wp2_with fail
          refine (HRC w4 hb4).mono ?_
          rintro r w' ⟨rfl, rfl⟩
          go_wp2_with fail
          refine (HFA w4 hb4).mono ?_
          rintro r w' ⟨rfl, rfl⟩
          clear HRC HFA hfre hb4
          go_wp2
          go_roundw
          case rel => exact ⟨k + 1, (cn + 1), (fr - (14 + (P : Int))), by omega, by omega, by omega, by omega, by go_num, by go_num, by rw [Int.add_comm 14], T', _, G3, HSR.out, HFR2.out, HCT3.out⟩
          case measure => simp [RowKit.intOf]; omega
    · obtain rfl : k = m := by omega
      obtain ⟨T, L, G, hs, _, _⟩ := HR.out
      have HB9 := Lib.hid hs.bel
      clear hs HR HS0
      go_wp2_with fail
      refine (awake8_any _).mono ?_
      rintro r w9 ⟨rfl, hb9⟩
      go_wp2
      go_ret
      exact ⟨rfl, HB9.out.trans (hb9.mono HB9.out.size)⟩

set_option maxHeartbeats 1600000 in
theorem walkSpace (n : Int) (A : Option Addr) (m cap : Nat) (w : World) (hn : (Lit.int .i64 n).wf = true) (h : ∃ vs ps, In2 w A m vs ps) :
    Calls Try.prog 3 #[.int .i64 n, .slice A m cap] w (Yes w) := by
  obtain ⟨vs, ps, hin⟩ := h
  clear hn
  by_cases h1 : n < 1
  · have b1 : decide (n < 1) = true := decide_eq_true h1
    go_enter Try.func3, Try.ntmps3
    go_wp2_with (go_at_call 9; refine (awake8_any _).mono ?_; rintro e w2 ⟨rfl, hb2⟩)
    go_ret
    exact ⟨rfl, hb2⟩
  · by_cases h2 : (40 : Int) < n
    · have b2 : decide ((40 : Int) < n) = true := decide_eq_true h2
      go_enter Try.func3, Try.ntmps3
      go_wp2_with (go_at_call 9; refine (awake8_any _).mono ?_; rintro e w2 ⟨rfl, hb2⟩)
      go_ret
      exact ⟨rfl, hb2⟩
    · by_cases h3 : (40 : Int) < (m : Int)
      · have b3 : decide ((40 : Int) < (m : Int)) = true := decide_eq_true h3
        go_enter Try.func3, Try.ntmps3
        go_wp2_with (go_at_call 9; refine (awake8_any _).mono ?_; rintro e w2 ⟨rfl, hb2⟩)
        go_ret
        exact ⟨rfl, hb2⟩
      · obtain ⟨N, rfl⟩ : ∃ N : Nat, n = N := ⟨n.toNat, by omega⟩
        exact space_good N A m cap vs ps w (by omega) (by omega) (by omega) hin
end

end Go.Proofs.Ytbcfjkfkkklgbaa
