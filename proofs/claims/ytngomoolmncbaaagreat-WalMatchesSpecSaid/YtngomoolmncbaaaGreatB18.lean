/-
Contract of Append of the program's log.
Towards the reference's Restart: the store of a kept sector, and the disk behind the last three statements.
-/
import Derived.Test.YtngomoolmncbaaaGreatB17
import Derived.Test.YtngomoolmncbaaaGreatB04
import Derived.Test.YtngomoolmncbaaaGreatB15
import Derived.Test.YtngomoolmncbaaaGreatB11
namespace Go.Proofs.YtngomoolmncbaaaGreat
section
open Go.RowKit


set_option maxHeartbeats 400000 in
theorem pwapp_nil (A : Option Addr) (len cap : Nat) (w : World) : Calls Tryz.prog 9 #[.pointer none, .slice A len cap] w fun e w' => e = .returned (.int .i64 12) ∧ w = w' := by
  go_enter Tryz.func9, Tryz.ntmps9
  go_wp2_with fail
  refine (pfailed_nil _).mono ?_
  rintro r w1 ⟨rfl, rfl⟩
  go_wp2
  go_ret
  exact ⟨rfl, rfl⟩

set_option maxRecDepth 20000 in
set_option maxHeartbeats 6400000 in
theorem pwapp_any {w : World} {F : Nat → Prop} {a b n : Nat} {S : Dsk} {L : Lg} (h : PD w F a n S) (hl : PL w b a L) (hb : ¬ F b) (hok : L.Ok n) (A : Option Addr) (len cap B : Nat) (d : List UInt8) (hA : Has w B A len (d.map bv)) (hcap : A = none → cap = 0) (hlen : len ≤ 1000000) (hB : B ≤ w.heap.size) :
    Calls Tryz.prog 9 #[.pointer (some ⟨b, 0, none⟩), .slice A len cap] w (PAppP w F a b n (S.wapp n L d)) := by
  have hfa := pfailed_any hl
  have hbl := hl.lt
  have HB := Lib.hid hb
  have HL := Lib.hid hl
  have HD := Lib.hid h
  have HFl : Hid (∀ x, F x → x < w.heap.size) := h.lt
  have HA := Lib.hid hA
  have hdl : Hid (d.length = len) := hA.from8
  cases hbad : L.bad with
  | true =>
    rw [hbad] at hfa
    have HS := Lib.hid (wapp_bad (S := S) (n := n) (d := d) hbad)
    clear h hl hb hbad hA hok
    go_enter Tryz.func9, Tryz.ntmps9
    go_wp2_with fail
    refine hfa.mono ?_
    rintro r w0 ⟨rfl, rfl⟩
    go_wp2
    go_ret
    rw [HS.out]
    exact ⟨F, rfl, HD.out, HL.out, Frm.refl _ _, fun x hx => .inl hx⟩
  | false =>
    rw [hbad] at hfa
    have HBAD := Lib.hid hbad
    obtain ⟨hz, hz0, hz1, hz2, hcn, _⟩ := lg_small h.ok.n4 hok
    have c3 := hl.c3
    have c5 := hl.c5
    have hcnb : (L.cnt : Int) ≤ 300000 := by omega
    obtain ⟨ev, hev⟩ : ∃ z, z = nv L.e := ⟨_, rfl⟩
    obtain ⟨cn, hcne⟩ : ∃ z : Int, z = (L.cnt : Int) := ⟨_, rfl⟩
    have hq := sq_nv L.cnt (by omega)
    rw [← hcne] at hq
    have hcn0 : 0 ≤ cn := by omega
    have hcn1 : cn ≤ 300000 := by omega
    have hwc : IntKind.u32.wrap cn = cn := by rw [IntKind.wrap_u32]; omega
    rw [← hev] at c3
    rw [← hcne] at c5
    have HDd := Lib.hid (h.below ((Below.refl w.heap.size w).drew))
    by_cases hbig : 1024 < len
    · have HS := Lib.hid (wapp_lim (S := S) (n := n) hbad (by rw [hdl.out]; exact hbig))
      have henc := fun v => encode_no L.e (sq L.cnt) A len cap v hbig (by omega)
      rw [← hev, hq] at henc
      clear h hl hb hbad hA hok hz hz0 hz1 hz2 hcn hcnb hev hcne hq
      go_enter Tryz.func9, Tryz.ntmps9
      go_wp2_with fail
      refine hfa.mono ?_
      rintro r w0 ⟨rfl, rfl⟩
      clear hfa
      go_wp2
      go_region_held3 (fun W => W.cell? ⟨b, 3, none⟩ = some (.int .u32 ev) ∧ W.cell? ⟨b, 5, none⟩ = some (.int .i64 cn)) (go_keep)
        (first
          | (go_at_call 37
             refine (henc _).mono ?_
             rintro r w' ⟨rfl, rfl⟩))
      go_wp2
      go_ret
      rw [HS.out]
      have hbd := (Below.refl w.heap.size w).drew
      exact ⟨F, rfl, HD.out.below hbd, HL.out.below hbd, Frm.of_below hbd, fun x hx => .inl hx⟩
    · have henc := encode_yes L.e (sq L.cnt) A len cap B d w.drew (HA.out.below ((Below.refl B w).drew)) hcap (by omega) hB
      rw [← hev, hq] at henc
      obtain ⟨M, hM⟩ : ∃ M, M = 14 + len := ⟨_, rfl⟩
      rw [← hM] at henc
      have hM1 : M ≤ 1038 := by omega
      have HME := Lib.hid (show (M : Int) = 14 + (d.length : Int) by rw [hdl.out]; omega)
      have HMN := Lib.hid (show M = 14 + d.length by rw [hdl.out]; exact hM)
      have HNB := Lib.hid (show ¬ 1024 < d.length by rw [hdl.out]; exact hbig)
      have c1 := hl.c1
      have c2 := hl.c2
      have c4 := hl.c4
      have c0 := hl.c0
      have hfree : ∀ v, Below w.heap.size w v → Calls Tryz.prog 30 #[.pointer (some ⟨b, 0, none⟩)] v fun e w' => e = .returned (.int .i64 (xsize L.c - L.fin)) ∧ Below v.heap.size v w' := fun v hv => pfree_any (hl.below hv) h.ok.n4 hok
      obtain ⟨xz, hxz⟩ : ∃ z, z = xsize L.c := ⟨_, rfl⟩
      rw [← hxz] at hfree hz0 hz1 hz2 hz
      have HXZ := Lib.hid hxz
      obtain ⟨fi, hfi⟩ : ∃ z : Int, z = (L.fin : Int) := ⟨_, rfl⟩
      rw [← hfi] at c4 hz2 hfree
      have HFI := Lib.hid hfi
      have hf0 : 0 ≤ fi := by omega
      have hw : IntKind.i64.wrap (xz - fi) = xz - fi := by rw [IntKind.wrap_i64]; omega
      have HCN := Lib.hid hcne
      have hcc : L.f ≤ 9223372036854775807 := by have := xvalid_parts hok.val; have := h.ok.n4; omega
      obtain ⟨f, hfe⟩ : ∃ z, z = L.f := ⟨_, rfl⟩
      obtain ⟨c, hce⟩ : ∃ z, z = L.c := ⟨_, rfl⟩
      rw [← hfe] at c1 hcc
      rw [← hce] at c2 hz
      have HFE := Lib.hid hfe
      have HCE := Lib.hid hce
      have HFREE := Lib.hid hfree
      clear h hl hb hbad hA hok hz hcn hcnb hev hcne hq hxz hfi hfe hce hM hfree
      go_enter Tryz.func9, Tryz.ntmps9
      go_wp2_with fail
      refine hfa.mono ?_
      rintro r w0 ⟨rfl, rfl⟩
      clear hfa
      go_wp2
      go_region_held3 (fun W => W.cell? ⟨b, 3, none⟩ = some (.int .u32 ev) ∧ W.cell? ⟨b, 5, none⟩ = some (.int .i64 cn)) (first | exact ⟨s1, s2⟩ | go_keep)
        (first
          | (go_at_call 37
             refine henc.mono ?_
             rintro r w1 ⟨⟨v1, rfl, hown1⟩, hb1⟩
             obtain ⟨Af, cf, rfl, _, hMc⟩ := Has.of_own hown1
             have HFR := Lib.hid (hasF_own hown1 (fun x hx => HFl.out x hx))
             have HB1 := Lib.hid (show Below w.heap.size w w1 from ((Below.refl w.heap.size w).drew).trans hb1)
             have s1 := (hb1.cell (p := ⟨b, 3, none⟩) (cell_lt (w := w) c3)).trans c3
             have s2 := (hb1.cell (p := ⟨b, 5, none⟩) (cell_lt (w := w) c5)).trans c5
             have d0 := (hb1.cell (p := ⟨b, 0, none⟩) (cell_lt (w := w) c0)).trans c0
             have d1 := (hb1.cell (p := ⟨b, 1, none⟩) (cell_lt (w := w) c1)).trans c1
             have d2 := (hb1.cell (p := ⟨b, 2, none⟩) (cell_lt (w := w) c2)).trans c2
             have d4 := (hb1.cell (p := ⟨b, 4, none⟩) (cell_lt (w := w) c4)).trans c4
             clear hown1 hb1 c0 c1 c2 c4 henc))
      clear c3 c5 s1 s2
      go_wp2_with fail
      refine (HFREE.out w1 HB1.out).mono ?_
      rintro r w2 ⟨rfl, hb2⟩
      have HB2 := Lib.hid hb2
      have s1 := (hb2.cell (p := ⟨b, 1, none⟩) (cell_lt (w := w1) d1)).trans d1
      have s2 := (hb2.cell (p := ⟨b, 2, none⟩) (cell_lt (w := w1) d2)).trans d2
      have s3 := (hb2.cell (p := ⟨b, 4, none⟩) (cell_lt (w := w1) d4)).trans d4
      have s0 := (hb2.cell (p := ⟨b, 0, none⟩) (cell_lt (w := w1) d0)).trans d0
      clear hb2
      have HBW := Lib.hid (HB1.out.trans (HB2.out.mono HB1.out.size))
      have HLW := Lib.hid (HL.out.below HBW.out)
      clear d0 d1 d2 d4
      by_cases hfull : xz - fi < (M : Int)
      · have HS := Lib.hid (wapp_full (S := S) (n := n) HBAD.out HNB.out (by rw [← HXZ.out, ← HFI.out, ← HME.out]; exact hfull))
        go_wp2
        go_ret
        rw [HS.out]
        exact ⟨F, rfl, HD.out.below HBW.out, HLW.out, Frm.of_below HBW.out, fun x hx => .inl hx⟩
      · have HNF := Lib.hid hfull
        have hge : ¬ xz - fi < (M : Int) := hfull
        have hbd := (Below.refl w2.heap.size w2).drew
        have hwr := xwrite_any (HD.out.below (HBW.out.trans (hbd.mono HBW.out.size))) f c fi Af M cf (frameB L.e (sq L.cnt) d) hcc (by omega) (by omega) hMc ((HFR.out.keep (G := F) (Frm.of_below (F := F) HB2.out) (fun x hx => .inl hx)).keep (G := F) (Frm.of_below (F := F) hbd) (fun x hx => .inl hx))
        obtain ⟨T, x, hW⟩ : ∃ T x, S.xwrite n f c fi (frameB L.e (sq L.cnt) d) = (T, x) := ⟨_, _, rfl⟩
        rw [hW] at hwr
        dsimp only at hwr
        have hW2 : S.xwrite n L.f L.c L.fin (frameB L.e (sq L.cnt) d) = (T, x) := by rw [← HFE.out, ← HCE.out, ← HFI.out]; exact hW
        have HW := Lib.hid hW2
        have HBN : Hid (w.heap.size ≤ w2.drew.heap.size) := HBW.out.size
        have HFB := Lib.hid (hbl)
        clear hW hW2 hfull hbd
        go_wp2
        go_region_held3 (fun W => W.cell? ⟨b, 0, none⟩ = some (.pointer (some ⟨a, 0, none⟩)) ∧ W.cell? ⟨b, 1, none⟩ = some (.int .i64 f) ∧ W.cell? ⟨b, 2, none⟩ = some (.int .i64 c) ∧ W.cell? ⟨b, 4, none⟩ = some (.int .i64 fi)) (first | exact ⟨t0, t1, t2, t4⟩ | go_keep)
          (first
            | (go_at_call 38
               refine hwr.mono ?_
               rintro r w3 ⟨rfl, hd3, hf3⟩
               have t0 := (hf3.cell (p := ⟨b, 0, none⟩) (cell_lt s0) HB.out).trans s0
               have t1 := (hf3.cell (p := ⟨b, 1, none⟩) (cell_lt s1) HB.out).trans s1
               have t2 := (hf3.cell (p := ⟨b, 2, none⟩) (cell_lt s2) HB.out).trans s2
               have t4 := (hf3.cell (p := ⟨b, 4, none⟩) (cell_lt s3) HB.out).trans s3
               have HX := Lib.hid (show PD w3 (fun x => F x ∨ newF w2.drew w3 x) a n T ∧ Frm F w w3 ∧ PL w3 b a L from ⟨hd3, (Frm.of_below (HBW.out.trans (((Below.refl w2.heap.size w2).drew).mono HBW.out.size))).trans' hf3, (HLW.out.below ((Below.refl w2.heap.size w2).drew)).keep hf3 HB.out⟩)
               clear hd3 hf3))
        clear s0 s1 s2 s3 t0 t1 t2 t4 hwr
        have HG : Hid (∀ x, (F x ∨ newF w2.drew w3 x) → F x ∨ w.heap.size ≤ x) := fun x hx => hx.imp id fun h => Nat.le_trans HBN.out h.1
        have HGB : Hid (∀ x, x = b → (F x ∨ newF w2.drew w3 x) → False) := fun x e hx => by
          subst e
          rcases hx with hx | hx
          · exact HB.out hx
          · exact Nat.lt_irrefl _ (Nat.lt_of_lt_of_le HFB.out (Nat.le_trans HBN.out hx.1))
        have hl3 := HX.out.2.2
        by_cases hx0 : x = 0
        · subst hx0
          have HS := Lib.hid (wapp_yes HBAD.out HNB.out (by rw [← HXZ.out, ← HFI.out, ← HME.out]; first | exact HNF.out | exact Int.not_lt.2 HNF.out) HW.out)
          have e4 := hl3.c4
          have g4 := hl3.fr 4
          rw [← HFI.out] at e4
          have hsum : fi + (M : Int) ≤ 300000 := by omega
          have hl4 : PL (w3.setCell ⟨b, 4, none⟩ (.int .i64 (fi + (M : Int)))) b a { L with fin := L.fin + (14 + d.length) } := (by have := hl3.setF (L.fin + (14 + d.length)); rwa [show ((L.fin + (14 + d.length) : Nat) : Int) = fi + (M : Int) by rw [HFI.out, HME.out]; simp] at this)
          have e5 := hl4.c5
          have g5 := hl4.fr 5
          have e5' : (w3.setCell ⟨b, 4, none⟩ (.int .i64 (fi + (M : Int)))).cell? ⟨b, 5, none⟩ = some (.int .i64 cn) := by rw [e5, HCN.out]
          have HL4 := Lib.hid hl4
          clear e5 hl3 hl4
          go_wp2
          go_ret
          rw [HS.out]
          refine ⟨fun x => F x ∨ newF w2.drew w3 x, rfl, (HX.out.1.keep (frm_set _ _ _ _) HGB.out).keep (frm_set _ _ _ _) HGB.out, ?_, ?_, HG.out⟩
          · have := HL4.out.setC (L.cnt + 1)
            rwa [show ((L.cnt + 1 : Nat) : Int) = cn + 1 by rw [HCN.out]; simp] at this
          · exact ((HX.out.2.1.more (fun x hx _ => .inl hx)).trans (frm_set _ _ _ _) (fun x e => .inl (.inr e))).trans (frm_set _ _ _ _) (fun x e => .inl (.inr e))
        · have HS := Lib.hid (wapp_err HBAD.out HNB.out (by rw [← HXZ.out, ← HFI.out, ← HME.out]; first | exact HNF.out | exact Int.not_lt.2 HNF.out) HW.out hx0)
          have hne : (x != 0) = true := by simp [hx0]
          have HNZ := Lib.hid hx0
          clear hl3 hx0
          go_wp2_with fail
          refine (pfail_any HX.out.2.2 x HNZ.out).mono ?_
          rintro r w4 ⟨rfl, hl4, hf4⟩
          have HY := Lib.hid (And.intro hl4 hf4)
          clear hl4 hf4
          go_wp2
          go_ret
          rw [HS.out]
          refine ⟨fun x => F x ∨ newF w2.drew w3 x, rfl, HX.out.1.keep HY.out.2 HGB.out, HY.out.1, ?_, HG.out⟩
          exact (HX.out.2.1.more (fun x hx _ => .inl hx)).trans HY.out.2 (fun x e => .inl (.inr e))
end

section
open Go.RowKit

theorem keep1_hit {ca : Nat → Option (List UInt8)} {st : Nat → List UInt8} {k : Nat} {y : Int} {xs : List UInt8} (h : ca k = some xs) : keep1 ca st ((k : Int), y) = upd st k (onto (xs.take (kb y)) (st k)) := by
  simp only [keep1, Int.toNat_natCast, h]
  rw [if_neg (by omega)]
theorem onto_parts {xs old : List UInt8} {s : Nat} (hx : xs.length = 64) (hs : s ≤ 64) : xs.take s ++ old.drop s = onto (xs.take s) old := by
  unfold onto
  rw [List.length_take, hx, Nat.min_eq_left hs]
/-- A kept sector is stored. -/
theorem rkeep {D W2 : World} {F : Nat → Prop} {a n k : Nat} {S : Dsk} {st : Nat → List UInt8} {q1 q2 d1 d2 m c : Nat} {A : Option Addr} {V1 V2 : Nat → Value} {v : Value} {l : List UInt8} (h : RDx D F a n (S.withSt st) q1 q2 d1 d2 A m c V1 V2) (bd : Below D.heap.size D W2) (hk : k < n)
    (ho : W2.ownsRow D.heap.size 5 1 v 64 (l.map bv)) :
    RD (W2.setCell ⟨q1, k, none⟩ v) (fun b => F b ∨ newF D (W2.setCell ⟨q1, k, none⟩ v) b) a n (S.withSt (upd st k l)) ∧ Frm F D (W2.setCell ⟨q1, k, none⟩ v) ∧
      W2.cell? ⟨q1, k, none⟩ = some (V1 k) ∧ W2.frozen? ⟨q1, k, none⟩ = false := by
  have hsz : (W2.setCell ⟨q1, k, none⟩ v).heap.size = W2.heap.size := by simp [World.setCell]
  have h2 := (h.keep (G := fun _ => False) (Frm.of_below bd) fun _ h => h.elim)
  have h3 := h2.more (G := fun b => F b ∨ newF D W2 b) (fun b hb => .inl hb) fun b hb => hb.elim (h2.lt b) fun h => h.2
  obtain ⟨g, cg, e, hg, hog⟩ := Own8.of ho (by omega)
  have hsl : Sl W2 (fun b => F b ∨ newF D W2 b) v l := by
    obtain ⟨cur, hr, _⟩ := id hog
    exact ⟨g, cg, e, .inr ⟨hg, hr.lt⟩, hog⟩
  have h4 := h3.set1 hk hsl hog.len
  refine ⟨?_, ?_, h2.row1.cell hk, h2.row1.fr k⟩
  · unfold newF
    rw [hsz]
    exact ⟨_, _, _, _, _, _, _, _, _, h4⟩
  · exact (Frm.of_below bd).trans ((Frm.refl (fun b => b = q1) W2).setCell (p := ⟨q1, k, none⟩) (.inl rfl) _) fun b e => .inl (e ▸ h.f1)
/-- The disk with a new cache, without faults, counted from 0, on. -/
theorem RDx.fresh {w w' : World} {F : Nat → Prop} {a n : Nat} {S : Dsk} {r1 r2 c1 c2 m c g : Nat} {A : Option Addr} {V1 V2 : Nat → Value} (h : RDx w F a n S r1 r2 c1 c2 A m c V1 V2)
    (hf : Frm (fun b => b = a) w w') (hg : w.heap.size ≤ g) (hg' : g < w'.heap.size) (hrow : w'.heap[g]? = some (.cells (madeCells #[.slice none 0 0] n) 37 (0, 0)))
    (hc : w'.heap[a]? = some (.cells #[.slice (some ⟨r1, 0, none⟩) n c1, .slice (some ⟨g, 0, none⟩) n n, .slice none 0 0, .int .i64 0, .bool false] 82 (0, 0))) :
    RD w' (fun b => F b ∨ newF w w' b) a n { st := S.st, ca := fun _ => none, fs := [], cnt := 0, off := false } := by
  have hk : ∀ (b : Nat) (cs : Array Value) (t : TypeId) (f : Nat × Nat), t ≠ 82 → w.heap[b]? = some (.cells cs t f) → w'.heap[b]? = some (.cells cs t f) := fun b cs t f ht ho => hf.obj ho (by
    rintro rfl
    rw [h.cells] at ho
    injection ho with ho
    injection ho with _ ho _
    exact ht ho.symm)
  have hr : ∀ {r V}, Rows32 w r n V → Rows32 w' r n V := fun ⟨cur, hr, hc⟩ => ⟨cur, hk _ _ _ _ (by decide) hr, hc⟩
  have h1 := h.lt r1 h.f1
  refine ⟨r1, g, c1, n, none, 0, 0, V1, fun _ => .slice none 0 0, ⟨h.ok.n1, h.ok.n4, h.ok.st, (fun i xs e => by cases e), by simp, by simp⟩, hc, hr h.row1, ⟨_, hrow, fun i hi => ?_⟩, by omega, fun i hi => ?_, fun i hi => rfl, ⟨rfl, fun h => absurd h (by omega)⟩, by omega, .inl h.fa, .inl h.f1, .inr ⟨hg, hg'⟩, ?_⟩
  · rw [← Array.getElem?_toList, toList_madeCells_one]
    simp [hi]
  · exact Sl.more ((h.v1 i hi).keep fun b cs _ => hk b cs _ _ (by decide)) fun b hb => .inl hb
  · rintro b (hb | hb)
    · have := h.lt b hb; have := hf.size; omega
    · exact hb.2
end

end Go.Proofs.YtngomoolmncbaaaGreat
