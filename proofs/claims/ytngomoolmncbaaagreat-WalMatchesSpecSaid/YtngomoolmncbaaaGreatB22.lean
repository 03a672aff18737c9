/-
Contract of the reference's Open of a log.
Contracts of the methods of the reference's log: Failed, Records, Synced, Free, Sync.
Contract of Append of the reference's log.
-/
import Derived.Test.YtngomoolmncbaaaGreatB19
import Derived.Test.YtngomoolmncbaaaGreatB21
import Derived.Deep.RegionHeld3
import Derived.Test.YtngomoolmncbaaaGreatB04
namespace Go.Proofs.YtngomoolmncbaaaGreat
section
open Go.RowKit

set_option maxRecDepth 20000 in
set_option maxHeartbeats 12800000 in
theorem rwopen_any {w : World} {F : Nat → Prop} {a n : Nat} {S : Dsk} (h : RD w F a n S) (f c : Int) (e : W32) (hc0 : c ≤ 9223372036854775807) :
    Calls Tryz.prog 19 #[.pointer (some ⟨a, 0, none⟩), .agg #[.int .i64 f, .int .i64 c], .int .u32 (nv e)] w (ROpenP w F a n (S.wopen n f c e)) := by
  have hb0 : Below w.heap.size w (w.alloc (.cells #[.int .i64 f, .int .i64 c] 23)) := (Below.refl _ _).alloc (Nat.le_refl _) _
  have hv := rvalidx_any (h.below hb0) f c hc0
  have hl := heap_alloc_last w (.cells #[.int .i64 f, .int .i64 c] 23)
  have hzF : Hid (¬ F w.heap.size) := fun hb => Nat.lt_irrefl _ (h.lt _ hb)
  have H0 := Lib.hid (h.below hb0)
  have HB0 := Lib.hid hb0
  have HL := Lib.hid hl
  have HFl : Hid (∀ b, F b → b < w.heap.size) := h.lt
  have hok := Lib.hid h.ok
  have hcc : Hid (c ≤ 9223372036854775807) := hc0
  clear h hb0 hl hc0
  cases hx : xvalid n f c with
  | false =>
    rw [hx] at hv
    have HR := Lib.hid (wopen_1 (S := S) (e := e) hx)
    clear hx
    go_enter Tryz.func19, Tryz.ntmps19
    go_wp2_with fail
    refine hv.mono ?_
    rintro r w1 ⟨rfl, hb1⟩
    have h1 := H0.out.below hb1
    have hb := HB0.out.trans (hb1.mono HB0.out.size)
    go_wp2
    go_ret3
    exact ROpenP.no HR.out h1 (Frm.of_below hb) (fun b hb => .inl hb)
  | true =>
    rw [hx] at hv
    have hpar := Lib.hid (xvalid_parts hx)
    have hxs : Hid (xsize c ≤ 9223372036854775807) := by
      show _ ≤ _
      have := xsize_valid hok.out.n4 hx
      have := hpar.out
      have := hok.out.n4
      omega
    by_cases h2 : (S.xread n f c 0 (xsize c)).2.1 = 0
    · have hlen := xread_len hok.out hx h2
      have hop := wopen_3 (e := e) hx h2
      obtain ⟨T, l, hRD⟩ : ∃ T l, S.xread n f c 0 (xsize c) = (T, 0, l) := ⟨(S.xread n f c 0 (xsize c)).1, (S.xread n f c 0 (xsize c)).2.2, Prod.ext rfl (Prod.ext h2 rfl)⟩
      rw [hRD] at hlen hop
      dsimp only at hlen hop
      obtain ⟨ps, s, hK⟩ : ∃ ps s, scanB (l.length + 1) l e 0 = (ps, s) := ⟨_, _, rfl⟩
      have hse := (scanB_end (l.length + 1) l e 0).1
      have hcnt := scanB_count (l.length + 1) l e 0
      rw [hK] at hop hse hcnt
      dsimp only at hse hcnt
      have hL2 : l.length ≤ 262144 := by have := hpar.out; have := hok.out.n4; omega
      have HRD := Lib.hid hRD
      have HOP := Lib.hid hop
      have HK := Lib.hid hK
      clear hRD hop hK h2 hx hlen
      go_enter Tryz.func19, Tryz.ntmps19
      go_wp2_with fail
      refine hv.mono ?_
      rintro r w1 ⟨rfl, hb1⟩
      have H1 := Lib.hid (H0.out.below hb1)
      have HB1 := Lib.hid (HB0.out.trans (hb1.mono HB0.out.size))
      have z0 : w1.cell? ⟨w.heap.size, 0, none⟩ = some (.int .i64 f) := (hb1.cell (p := ⟨w.heap.size, 0, none⟩) (by simp)).trans (cell_of_row _ _ 0 _ _ _ HL.out)
      have z1 : w1.cell? ⟨w.heap.size, 1, none⟩ = some (.int .i64 c) := (hb1.cell (p := ⟨w.heap.size, 1, none⟩) (by simp)).trans (cell_of_row _ _ 1 _ _ _ HL.out)
      clear hb1 hv
      go_wp2
      have H1d := Lib.hid (H1.out.below ((Below.refl w1.heap.size w1).drew))
      have HFd := Lib.hid (Frm.of_below (F := F) (HB1.out.trans (((Below.refl w1.heap.size w1).drew).mono HB1.out.size)))
      have ca := rsizex_any w1.drew f c
      go_region_held3 (fun W => W.cell? ⟨w.heap.size, 0, none⟩ = some (.int .i64 f) ∧ W.cell? ⟨w.heap.size, 1, none⟩ = some (.int .i64 c)) (first | exact ⟨s1, s2⟩ | go_keep)
        (first
          | (go_at_call 41
             refine ca.mono ?_
             rintro r wA ⟨rfl, hbA⟩
             have s1 := (hbA.cell (p := ⟨w.heap.size, 0, none⟩) (cell_lt (w := w1) z0)).trans z0
             have s2 := (hbA.cell (p := ⟨w.heap.size, 1, none⟩) (cell_lt (w := w1) z1)).trans z1
             have HA := Lib.hid (H1d.out.below hbA)
             have HFA := Lib.hid (HFd.out.trans' (Frm.of_below hbA))
             have cb := rxread_any HA.out f c 0 (xsize c) hcc.out (by omega) hxs.out
             rw [HRD.out] at cb
             dsimp only at cb
             clear hbA)
          | (go_at_call 56
             refine cb.mono ?_
             rintro r wB ⟨v3, rfl, ⟨A3, m3, q3, rfl, hA3, hq3, hv3⟩, hd3, hf3⟩
             have HV3 := Lib.hid (hv3 F (fun b hb => Nat.lt_of_lt_of_le (HFl.out b hb) HFA.out.size))
             have HD3 := Lib.hid hd3
             have HF3 := Lib.hid (HFA.out.trans' hf3)
             have HS3 := Lib.hid HFA.out.size
             have s3 := (hf3.cell (p := ⟨w.heap.size, 0, none⟩) (cell_lt s1) hzF.out).trans s1
             have s4 := (hf3.cell (p := ⟨w.heap.size, 1, none⟩) (cell_lt s2) hzF.out).trans s2
             have s1 := s3
             have s2 := s4
             clear hv3 hd3 hf3 s3 s4))
      have hm3 : l.length = m3 := HV3.out.has.from8
      have HM3 := Lib.hid hm3
      rw [hm3] at hse hL2
      have HSE : Hid (s ≤ l.length) := by show _ ≤ _; rw [hm3]; exact hse
      clear hm3
      have hsc := refScan_all e A3 m3 q3 _ l wB HV3.out.has hA3 hq3 (by omega) (Nat.le_refl _)
      go_wp2_with fail
      refine hsc.mono ?_
      rintro r w5 ⟨⟨v5, vs5, rfl, hown5, hM5⟩, hb5⟩
      rw [HK.out] at hown5 hM5 ⊢
      dsimp only at hown5 hM5 ⊢
      have hN5 := (NewR.of_scan hown5 hM5)
      obtain ⟨A5, c5, rfl, _, _⟩ := Has.of_own hown5
      have HN5 := Lib.hid (hN5.mono HF3.out.size (Nat.le_refl _))
      have HD5 := Lib.hid (HD3.out.below hb5)
      have HF5 := Lib.hid (HF3.out.trans' (Frm.of_below hb5))
      have HA5 := Lib.hid (HV3.out.keep (G := F) (Frm.of_below (F := F) hb5) (fun b hb => .inl hb))
      have HL5 : Hid (∀ b, F b → b < w.heap.size) := HFl.out
      have x1 := (hb5.cell (p := ⟨w.heap.size, 0, none⟩) (cell_lt s1)).trans s1
      have x2 := (hb5.cell (p := ⟨w.heap.size, 1, none⟩) (cell_lt s2)).trans s2
      have hpsb : ps.length ≤ 262144 := by omega
      have hsb : (s : Int) ≤ 262144 := by omega
      have hmb : (m3 : Int) ≤ 262144 := by omega
      clear hown5 hM5 hN5 hb5 hsc s1 s2 z0 z1 hcnt ca cb
      go_wp2
      go_loop [13, 14] (fun cv iv => ∃ (k : Nat) (cb : Bool), s ≤ k ∧ k ≤ m3 ∧ iv = .int .i64 k ∧ cv = .bool cb ∧ Hid (cb = zeroL ((l.drop s).take (k - s)))) (fun _ iv => m3 - (RowKit.intOf iv).toNat)
      case atStart => exact ⟨s, true, Nat.le_refl _, hse, rfl, rfl, (zero_start l s).symm⟩
      case round =>
        obtain ⟨k, cb, hsk, hk, rfl, rfl, HC⟩ := hrel
        by_cases hlt : k < m3
        · have hkl : k < l.length := by rw [HM3.out]; exact hlt
          have hlti : (k : Int) < (m3 : Int) := by omega
          have hk0 : (0 : Int) ≤ (k : Int) := by omega
          have HNX := Lib.hid (zero_next l s k hsk hkl)
          cases cb with
          | false =>
            go_wp2
            go_round
            case rel => exact ⟨k + 1, false, by omega, by omega, by go_num, rfl, by show _ = _; rw [HNX.out, ← HC.out]; rfl⟩
            case measure => simp [RowKit.intOf]; omega
          | true =>
            obtain ⟨b3, o3, rfl, _, hc3⟩ := HA5.out.has.at_ hlt
            rw [List.getElem_map, bv_eq] at hc3
            obtain ⟨y, hy⟩ : ∃ y, y = l[k] := ⟨_, rfl⟩
            have hyz := byte_zero y
            rw [← hy] at hc3 HNX
            obtain ⟨yv, hyv⟩ : ∃ v : Int, v = (y.toNat : Int) := ⟨_, rfl⟩
            rw [← hyv] at hc3 hyz
            obtain ⟨bz, hbz⟩ : ∃ b, b = (y == 0) := ⟨_, rfl⟩
            rw [← hbz] at hyz HNX
            clear hy hyv hbz
            go_wp2
            go_round
            case rel => exact ⟨k + 1, bz, by omega, by omega, by go_num, rfl, by show _ = _; rw [HNX.out, ← HC.out]; rfl⟩
            case measure => simp [RowKit.intOf]; omega
        · obtain rfl : k = m3 := by omega
          have HZ : Hid (cb = zeroL (l.drop s)) := by
            show _ = _
            rw [HC.out, ← zero_all l s, HM3.out]
          clear HC hlt
          obtain ⟨hi, hhi⟩ : ∃ hi, hi = w5.heap.size := ⟨_, rfl⟩
          rw [← hhi] at HN5
          cases cb with
          | true =>
            obtain ⟨G, hG⟩ : ∃ G, G = F := ⟨_, rfl⟩
            obtain ⟨T', hT⟩ : ∃ X, X = T := ⟨_, rfl⟩
            have HW : Hid (S.wopen n f c e = T'.woC f c e (ps, s)) := by
              show _ = _
              rw [HOP.out, hT]
              have hcl := wclean_yes (S := T) (n := n) (f := f) (c := c) (k := s) HZ.out.symm
              rw [woB_ok (by rw [show (ps, s).2 = s from rfl, hcl]), show (ps, s).2 = s from rfl, hcl]
            have HD : Hid (RD w5 G a n T') := by rw [hG, hT]; exact HD5
            have HFX : Hid (Frm F w w5) := HF5
            have HGX : Hid (∀ b, G b → F b ∨ w.heap.size ≤ b) := fun b hb => .inl (by rw [← hG]; exact hb)
            have HGY : Hid (∀ b, G b → b < w.heap.size ∨ hi ≤ b) := fun b hb => .inl (HL5.out b (by rw [← hG]; exact hb))
            have HHI : Hid (hi ≤ w5.heap.size) := Nat.le_of_eq hhi
            have hzG : Hid (¬ G w.heap.size) := by rw [hG]; exact hzF
            have HNX := HN5
            clear hG hT hhi
            have hsy := rsync_any HD.out
            by_cases ha : T'.ans true = 0
            · rw [ha] at hsy
              have HW2 := Lib.hid (HW.out.trans (woC_ok ha))
              clear ha
              go_wp2_with fail
              refine hsy.mono ?_
              rintro r w8 ⟨rfl, hd8, hf8⟩
              have y1 := (hf8.cell (p := ⟨w.heap.size, 0, none⟩) (cell_lt x1) hzG.out).trans x1
              have y2 := (hf8.cell (p := ⟨w.heap.size, 1, none⟩) (cell_lt x2) hzG.out).trans x2
              have HX := Lib.hid (show RD w8 G a n T'.synced ∧ Frm F w w8 ∧ NewR w.heap.size hi w8 (.slice A5 ps.length c5) ps ∧ hi ≤ w8.heap.size from ⟨hd8, HFX.out.trans hf8 HGX.out, HNX.out.keep hf8 HGY.out, Nat.le_trans HHI.out hf8.size⟩)
              clear hd8 hf8 x1 x2 hsy
              go_wp2
              go_ret3
              have hbA := (Below.refl w8.heap.size w8).alloc (Nat.le_refl _) (.cells #[.pointer (some ⟨a, 0, none⟩), .int .i64 f, .int .i64 c, .int .u32 (nv e), .int .i64 (s : Int), .int .i64 (ps.length : Int), .int .i64 (ps.length : Int), .bool false] 72)
              rw [HW2.out]
              refine ⟨G, .pointer (some ⟨w8.heap.size, 0, none⟩), .slice A5 ps.length c5, rfl, HX.out.1.below hbA, HX.out.2.1.trans' (Frm.of_below hbA), HGX.out, .inr ⟨_, w8.heap.size, rfl, rfl, heap_alloc_last w8 _, HX.out.2.1.size, fun hg => Nat.lt_irrefl _ (HX.out.1.lt _ hg)⟩, ?_⟩
              exact (HX.out.2.2.1.keep (F := fun _ => False) (Frm.of_below hbA) (fun b hb => hb.elim)).mono (Nat.le_refl _) (Nat.le_trans HX.out.2.2.2 hbA.size)
            · have HW2 := Lib.hid (HW.out.trans (woC_bad ha))
              obtain ⟨x, hx⟩ : ∃ x, x = T'.ans true := ⟨_, rfl⟩
              rw [← hx] at hsy ha HW2
              have hne : (x != 0) = true := by simp [ha]
              clear hx
              go_wp2_with fail
              refine hsy.mono ?_
              rintro r w8 ⟨rfl, hd8, hf8⟩
              have HX := Lib.hid (show RD w8 G a n T'.synced ∧ Frm F w w8 from ⟨hd8, HFX.out.trans hf8 HGX.out⟩)
              clear hd8 hf8 x1 x2 hsy
              go_wp2
              go_ret3
              exact ROpenP.no HW2.out HX.out.1 HX.out.2 HGX.out
          | false =>
            obtain ⟨K, hKK⟩ : ∃ K, K = k - s := ⟨_, rfl⟩
            have hKs : (k : Int) - (s : Int) = (K : Int) := by omega
            have hKb : K ≤ 262144 := by omega
            obtain ⟨T2, x6, hW6⟩ : ∃ T2 x6, T.xwrite n f c s (List.replicate K 0) = (T2, x6) := ⟨_, _, rfl⟩
            have hcl := wclean_no (S := T) (n := n) (f := f) (c := c) HZ.out.symm
            rw [HM3.out, ← hKK, hW6] at hcl
            have hmk := fun W => mk_bytes W K (by omega)
            have hwK : IntKind.i64.wrap (K : Int) = (K : Int) := by rw [IntKind.wrap_i64]; omega
            have hbm : Below w5.heap.size w5 (w5.drew.alloc (.cells (zeros K) 5)) := ((Below.refl _ _).drew).alloc (Nat.le_refl _) _
            have hwr := rxwrite_any (HD5.out.below hbm) f c s (some ⟨w5.heap.size, 0, none⟩) K K (List.replicate K 0) hcc.out (by omega) (by omega) (Nat.le_refl _) (hasF_zeros w5.drew K (fun hf => by have h1 := HL5.out _ hf; have h2 := HF5.out.size; exact Nat.lt_irrefl _ (Nat.lt_of_lt_of_le h1 h2)))
            rw [hW6] at hwr
            dsimp only at hwr
            have HCL := Lib.hid hcl
            have HBM := Lib.hid hbm
            have m1 := World.new_ne w5.drew ⟨w.heap.size, 0, none⟩ x1
            have m2 := World.new_ne w5.drew ⟨w.heap.size, 1, none⟩ x2
            have HHI5 : Hid (hi = w5.heap.size) := hhi
            clear hcl hbm hW6 hKK hhi
            go_wp2
            go_region_held3 (fun W => W.cell? ⟨w.heap.size, 0, none⟩ = some (.int .i64 f) ∧ W.cell? ⟨w.heap.size, 1, none⟩ = some (.int .i64 c)) (first | exact ⟨s1, s2⟩ | go_keep)
              (first
                | (go_at_call 42
                   refine hwr.mono ?_
                   rintro r w6 ⟨rfl, hd6, hf6⟩
                   have s3 := (hf6.cell (p := ⟨w.heap.size, 0, none⟩) (Nat.lt_of_lt_of_le (cell_lt x1) HBM.out.size) hzF.out).trans ((HBM.out.cell (p := ⟨w.heap.size, 0, none⟩) (cell_lt x1)).trans x1)
                   have s4 := (hf6.cell (p := ⟨w.heap.size, 1, none⟩) (Nat.lt_of_lt_of_le (cell_lt x2) HBM.out.size) hzF.out).trans ((HBM.out.cell (p := ⟨w.heap.size, 1, none⟩) (cell_lt x2)).trans x2)
                   have s1 := s3
                   have s2 := s4
                   have HD6 := Lib.hid hd6
                   have HF6 := Lib.hid hf6
                   clear hd6 hf6 s3 s4))
            by_cases h6 : x6 = 0
            · subst h6
              obtain ⟨G, hG⟩ : ∃ G : Nat → Prop, G = fun b => F b ∨ newF (w5.drew.alloc (.cells (zeros K) 5)) w6 b := ⟨_, rfl⟩
              obtain ⟨T', hT⟩ : ∃ X, X = T2 := ⟨_, rfl⟩
              have HW : Hid (S.wopen n f c e = T'.woC f c e (ps, s)) := by
                show _ = _
                rw [HOP.out, hT, woB_ok (by rw [show (ps, s).2 = s from rfl, HCL.out]), show (ps, s).2 = s from rfl, HCL.out]
              have HD : Hid (RD w6 G a n T') := by rw [hG, hT]; exact HD6
              have HFX : Hid (Frm F w w6) := (HF5.out.trans' (Frm.of_below HBM.out)).trans' HF6.out
              have HGX : Hid (∀ b, G b → F b ∨ w.heap.size ≤ b) := fun b hb => by
                rw [hG] at hb
                exact hb.imp id fun h => by have := h.1; have h2 := HBM.out.size; have h3 := HF5.out.size; exact Nat.le_trans h3 (Nat.le_trans h2 this)
              have HGY : Hid (∀ b, G b → b < w.heap.size ∨ hi ≤ b) := fun b hb => by
                rw [hG] at hb
                exact hb.imp (HL5.out b) fun h => by rw [HHI5.out]; exact Nat.le_trans HBM.out.size h.1
              have HHI : Hid (hi ≤ w6.heap.size) := by show _ ≤ _; rw [HHI5.out]; exact Nat.le_trans HBM.out.size HF6.out.size
              have hzG : Hid (¬ G w.heap.size) := fun hb => by
                rw [hG] at hb
                rcases hb with hb | hb
                · exact hzF.out hb
                · have h1 := hb.1; have h2 := HBM.out.size; have h3 := cell_lt x1; exact Nat.lt_irrefl _ (Nat.lt_of_lt_of_le h3 (Nat.le_trans h2 h1))
              have HNX := Lib.hid ((HN5.out.keep (F := fun _ => False) (Frm.of_below HBM.out) (fun b hb => hb.elim)).keep HF6.out (fun b hb => .inl (HL5.out b hb)))
              clear hG hT x1 x2 m1 m2
              have x1 := s1
              have x2 := s2
              clear s1 s2
              have hsy := rsync_any HD.out
              by_cases ha : T'.ans true = 0
              · rw [ha] at hsy
                have HW2 := Lib.hid (HW.out.trans (woC_ok ha))
                clear ha
                go_wp2_with fail
                refine hsy.mono ?_
                rintro r w8 ⟨rfl, hd8, hf8⟩
                have y1 := (hf8.cell (p := ⟨w.heap.size, 0, none⟩) (cell_lt x1) hzG.out).trans x1
                have y2 := (hf8.cell (p := ⟨w.heap.size, 1, none⟩) (cell_lt x2) hzG.out).trans x2
                have HX := Lib.hid (show RD w8 G a n T'.synced ∧ Frm F w w8 ∧ NewR w.heap.size hi w8 (.slice A5 ps.length c5) ps ∧ hi ≤ w8.heap.size from ⟨hd8, HFX.out.trans hf8 HGX.out, HNX.out.keep hf8 HGY.out, Nat.le_trans HHI.out hf8.size⟩)
                clear hd8 hf8 x1 x2 hsy
                go_wp2
                go_ret3
                have hbA := (Below.refl w8.heap.size w8).alloc (Nat.le_refl _) (.cells #[.pointer (some ⟨a, 0, none⟩), .int .i64 f, .int .i64 c, .int .u32 (nv e), .int .i64 (s : Int), .int .i64 (ps.length : Int), .int .i64 (ps.length : Int), .bool false] 72)
                rw [HW2.out]
                refine ⟨G, .pointer (some ⟨w8.heap.size, 0, none⟩), .slice A5 ps.length c5, rfl, HX.out.1.below hbA, HX.out.2.1.trans' (Frm.of_below hbA), HGX.out, .inr ⟨_, w8.heap.size, rfl, rfl, heap_alloc_last w8 _, HX.out.2.1.size, fun hg => Nat.lt_irrefl _ (HX.out.1.lt _ hg)⟩, ?_⟩
                exact (HX.out.2.2.1.keep (F := fun _ => False) (Frm.of_below hbA) (fun b hb => hb.elim)).mono (Nat.le_refl _) (Nat.le_trans HX.out.2.2.2 hbA.size)
              · have HW2 := Lib.hid (HW.out.trans (woC_bad ha))
                obtain ⟨x, hx⟩ : ∃ x, x = T'.ans true := ⟨_, rfl⟩
                rw [← hx] at hsy ha HW2
                have hne : (x != 0) = true := by simp [ha]
                clear hx
                go_wp2_with fail
                refine hsy.mono ?_
                rintro r w8 ⟨rfl, hd8, hf8⟩
                have HX := Lib.hid (show RD w8 G a n T'.synced ∧ Frm F w w8 from ⟨hd8, HFX.out.trans hf8 HGX.out⟩)
                clear hd8 hf8 x1 x2 hsy
                go_wp2
                go_ret3
                exact ROpenP.no HW2.out HX.out.1 HX.out.2 HGX.out
            · have hne : (x6 != 0) = true := by simp [h6]
              have HX := Lib.hid (show RD w6 (fun b => F b ∨ newF (w5.drew.alloc (.cells (zeros K) 5)) w6 b) a n T2 ∧ Frm F w w6 from ⟨HD6.out, (HF5.out.trans' (Frm.of_below HBM.out)).trans' HF6.out⟩)
              have HW : Hid (S.wopen n f c e = ⟨T2, x6, none, []⟩) := by
                show _ = _
                rw [HOP.out, woB_bad (by rw [show (ps, s).2 = s from rfl, HCL.out]; exact h6), show (ps, s).2 = s from rfl, HCL.out]
              clear h6
              go_wp2
              go_ret3
              exact ROpenP.no HW.out HX.out.1 HX.out.2 (fun b hb => hb.imp id fun h => by have := h.1; have h2 := HBM.out.size; have h3 := HF5.out.size; exact Nat.le_trans h3 (Nat.le_trans h2 this))
    · obtain ⟨T, x, l, hRD⟩ : ∃ T x l, S.xread n f c 0 (xsize c) = (T, x, l) := ⟨_, _, _, rfl⟩
      have hop := wopen_2 (e := e) hx h2
      rw [hRD] at hop h2
      dsimp only at hop h2
      have hne : (x != 0) = true := by simp [h2]
      have HRD := Lib.hid hRD
      have HOP := Lib.hid hop
      clear hRD hop h2 hx
      go_enter Tryz.func19, Tryz.ntmps19
      go_wp2_with fail
      refine hv.mono ?_
      rintro r w1 ⟨rfl, hb1⟩
      have H1 := Lib.hid (H0.out.below hb1)
      have HB1 := Lib.hid (HB0.out.trans (hb1.mono HB0.out.size))
      have z0 : w1.cell? ⟨w.heap.size, 0, none⟩ = some (.int .i64 f) := (hb1.cell (p := ⟨w.heap.size, 0, none⟩) (by simp)).trans (cell_of_row _ _ 0 _ _ _ HL.out)
      have z1 : w1.cell? ⟨w.heap.size, 1, none⟩ = some (.int .i64 c) := (hb1.cell (p := ⟨w.heap.size, 1, none⟩) (by simp)).trans (cell_of_row _ _ 1 _ _ _ HL.out)
      clear hb1 hv
      go_wp2
      have H1d := Lib.hid (H1.out.below ((Below.refl w1.heap.size w1).drew))
      have HFd := Lib.hid (Frm.of_below (F := F) (HB1.out.trans (((Below.refl w1.heap.size w1).drew).mono HB1.out.size)))
      have ca := rsizex_any w1.drew f c
      go_region_held3 (fun W => W.cell? ⟨w.heap.size, 0, none⟩ = some (.int .i64 f) ∧ W.cell? ⟨w.heap.size, 1, none⟩ = some (.int .i64 c)) (first | exact ⟨s1, s2⟩ | go_keep)
        (first
          | (go_at_call 41
             refine ca.mono ?_
             rintro r wA ⟨rfl, hbA⟩
             have s1 := (hbA.cell (p := ⟨w.heap.size, 0, none⟩) (cell_lt (w := w1) z0)).trans z0
             have s2 := (hbA.cell (p := ⟨w.heap.size, 1, none⟩) (cell_lt (w := w1) z1)).trans z1
             have HA := Lib.hid (H1d.out.below hbA)
             have HFA := Lib.hid (HFd.out.trans' (Frm.of_below hbA))
             have cb := rxread_any HA.out f c 0 (xsize c) hcc.out (by omega) hxs.out
             rw [HRD.out] at cb
             dsimp only at cb
             clear hbA)
          | (go_at_call 56
             refine cb.mono ?_
             rintro r wB ⟨v3, rfl, ⟨A3, m3, q3, rfl, hA3, hq3, hv3⟩, hd3, hf3⟩
             have HV3 := Lib.hid (hv3 F (fun b hb => Nat.lt_of_lt_of_le (HFl.out b hb) HFA.out.size))
             have HD3 := Lib.hid hd3
             have HF3 := Lib.hid (HFA.out.trans' hf3)
             have HS3 := Lib.hid HFA.out.size
             have s3 := (hf3.cell (p := ⟨w.heap.size, 0, none⟩) (cell_lt s1) hzF.out).trans s1
             have s4 := (hf3.cell (p := ⟨w.heap.size, 1, none⟩) (cell_lt s2) hzF.out).trans s2
             have s1 := s3
             have s2 := s4
             clear hv3 hd3 hf3 s3 s4))
      have HX := Lib.hid (show RD wB F a n T ∧ Frm F w wB from ⟨HD3.out, HF3.out⟩)
      go_wp2
      go_ret3
      exact ROpenP.no HOP.out HX.out.1 HX.out.2 (fun b hb => .inl hb)
end

section
open Go.RowKit

section
variable {w : World} {b a : Nat} {L L' : Lg}
theorem RL.c0 (h : RL w b a L) : w.cell? ⟨b, 0, none⟩ = some (.pointer (some ⟨a, 0, none⟩)) := cell_of_row w b 0 _ _ _ h
theorem RL.c1 (h : RL w b a L) : w.cell? ⟨b, 1, none⟩ = some (.int .i64 L.f) := cell_of_row w b 1 _ _ _ h
theorem RL.c2 (h : RL w b a L) : w.cell? ⟨b, 2, none⟩ = some (.int .i64 L.c) := cell_of_row w b 2 _ _ _ h
theorem RL.c3 (h : RL w b a L) : w.cell? ⟨b, 3, none⟩ = some (.int .u32 (nv L.e)) := cell_of_row w b 3 _ _ _ h
theorem RL.c4 (h : RL w b a L) : w.cell? ⟨b, 4, none⟩ = some (.int .i64 (L.fin : Int)) := cell_of_row w b 4 _ _ _ h
theorem RL.c5 (h : RL w b a L) : w.cell? ⟨b, 5, none⟩ = some (.int .i64 (L.cnt : Int)) := cell_of_row w b 5 _ _ _ h
theorem RL.c6 (h : RL w b a L) : w.cell? ⟨b, 6, none⟩ = some (.int .i64 (L.syn : Int)) := cell_of_row w b 6 _ _ _ h
theorem RL.c7 (h : RL w b a L) : w.cell? ⟨b, 7, none⟩ = some (.bool L.bad) := cell_of_row w b 7 _ _ _ h
theorem RL.fr (h : RL w b a L) (j : Nat) : w.frozen? ⟨b, j, none⟩ = false := by unfold RL at h; simp [World.frozen?, h]
theorem RL.set (h : RL w b a L) (j : Nat) (v : Value) (hL : (#[.pointer (some ⟨a, 0, none⟩), .int .i64 L.f, .int .i64 L.c, .int .u32 (nv L.e), .int .i64 (L.fin : Int), .int .i64 (L.cnt : Int), .int .i64 (L.syn : Int), .bool L.bad] : Array Value).setIfInBounds j v =
    #[.pointer (some ⟨a, 0, none⟩), .int .i64 L'.f, .int .i64 L'.c, .int .u32 (nv L'.e), .int .i64 (L'.fin : Int), .int .i64 (L'.cnt : Int), .int .i64 (L'.syn : Int), .bool L'.bad]) : RL (w.setCell ⟨b, j, none⟩ v) b a L' := by
  unfold RL
  rw [set_field h, hL]
end
/-- What Append and Sync of the reference's log leave. -/
def RAppP (w : World) (F : Nat → Prop) (a b n : Nat) (R : Dsk × Int × Lg) (r : Ending) (w' : World) : Prop :=
  ∃ G : Nat → Prop, r = .returned (.int .i64 R.2.1) ∧ RD w' G a n R.1 ∧ RL w' b a R.2.2 ∧ Frm (fun x => F x ∨ x = b) w w' ∧ (∀ x, G x → F x ∨ w.heap.size ≤ x)

set_option maxHeartbeats 400000 in
theorem rfailed_nil (w : World) : Calls Tryz.prog 58 #[.pointer none] w fun e w' => e = .returned (.bool true) ∧ w = w' := by
  go_enter Tryz.func58, Tryz.ntmps58
  go_wp2
  go_ret
  exact ⟨rfl, rfl⟩
set_option maxHeartbeats 400000 in
theorem rfailed_any {w : World} {b a : Nat} {L : Lg} (h : RL w b a L) : Calls Tryz.prog 58 #[.pointer (some ⟨b, 0, none⟩)] w fun e w' => e = .returned (.bool L.bad) ∧ w = w' := by
  have c7 := h.c7
  clear h
  go_enter Tryz.func58, Tryz.ntmps58
  go_wp2
  go_ret
  exact ⟨rfl, rfl⟩
set_option maxHeartbeats 400000 in
theorem rrecords_nil (w : World) : Calls Tryz.prog 59 #[.pointer none] w fun e w' => e = .returned (.int .i64 0) ∧ w = w' := by
  go_enter Tryz.func59, Tryz.ntmps59
  go_wp2
  go_ret
  exact ⟨rfl, rfl⟩
set_option maxHeartbeats 400000 in
theorem rrecords_any {w : World} {b a : Nat} {L : Lg} (h : RL w b a L) : Calls Tryz.prog 59 #[.pointer (some ⟨b, 0, none⟩)] w fun e w' => e = .returned (.int .i64 (L.cnt : Int)) ∧ w = w' := by
  have c5 := h.c5
  clear h
  go_enter Tryz.func59, Tryz.ntmps59
  go_wp2
  go_ret
  exact ⟨rfl, rfl⟩
set_option maxHeartbeats 400000 in
theorem rsynced_nil (w : World) : Calls Tryz.prog 60 #[.pointer none] w fun e w' => e = .returned (.int .i64 0) ∧ w = w' := by
  go_enter Tryz.func60, Tryz.ntmps60
  go_wp2
  go_ret
  exact ⟨rfl, rfl⟩
set_option maxHeartbeats 400000 in
theorem rsynced_any {w : World} {b a : Nat} {L : Lg} (h : RL w b a L) : Calls Tryz.prog 60 #[.pointer (some ⟨b, 0, none⟩)] w fun e w' => e = .returned (.int .i64 (L.syn : Int)) ∧ w = w' := by
  have c6 := h.c6
  clear h
  go_enter Tryz.func60, Tryz.ntmps60
  go_wp2
  go_ret
  exact ⟨rfl, rfl⟩
set_option maxHeartbeats 400000 in
theorem rfree_nil (w : World) : Calls Tryz.prog 61 #[.pointer none] w fun e w' => e = .returned (.int .i64 0) ∧ w = w' := by
  go_enter Tryz.func61, Tryz.ntmps61
  go_wp2
  go_ret
  exact ⟨rfl, rfl⟩
set_option maxRecDepth 20000 in
set_option maxHeartbeats 1600000 in
theorem rfree_any {w : World} {b a n : Nat} {L : Lg} (h : RL w b a L) (hn : n ≤ 4096) (hok : L.Ok n) : Calls Tryz.prog 61 #[.pointer (some ⟨b, 0, none⟩)] w fun e w' => e = .returned (.int .i64 (xsize L.c - L.fin)) ∧ Below w.heap.size w w' := by
  obtain ⟨hz, hz0, hz1, hz2, _, _⟩ := lg_small hn hok
  have c1 := h.c1
  have c2 := h.c2
  have c4 := h.c4
  have hs := fun v => rsizex_any v L.f L.c
  obtain ⟨xz, hxz⟩ : ∃ z, z = xsize L.c := ⟨_, rfl⟩
  rw [← hxz] at hs hz0 hz1 hz2 ⊢
  obtain ⟨fi, hfi⟩ : ∃ z : Int, z = (L.fin : Int) := ⟨_, rfl⟩
  rw [← hfi] at c4 hz2 ⊢
  have hf0 : 0 ≤ fi := by omega
  have hw : IntKind.i64.wrap (xz - fi) = xz - fi := by rw [IntKind.wrap_i64]; omega
  clear h hok hz hxz hfi
  generalize L.f = f at *
  generalize L.c = c at *
  go_enter Tryz.func61, Tryz.ntmps61
  go_wp2
  go_region_held3 (fun W => W.cell? ⟨b, 1, none⟩ = some (.int .i64 f) ∧ W.cell? ⟨b, 2, none⟩ = some (.int .i64 c) ∧ W.cell? ⟨b, 4, none⟩ = some (.int .i64 fi)) (first | exact ⟨s1, s2, s3⟩ | go_keep)
    (first
      | (go_at_call 41
         refine (hs _).mono ?_
         rintro r wA ⟨rfl, hbA⟩
         have s1 := (hbA.cell (p := ⟨b, 1, none⟩) (cell_lt (w := w) c1)).trans c1
         have s2 := (hbA.cell (p := ⟨b, 2, none⟩) (cell_lt (w := w) c2)).trans c2
         have s3 := (hbA.cell (p := ⟨b, 4, none⟩) (cell_lt (w := w) c4)).trans c4))
  go_wp2
  go_ret
  exact ⟨rfl, ((Below.refl w.heap.size w).drew).trans hbA⟩

set_option maxHeartbeats 400000 in
theorem rlsync_nil (w : World) : Calls Tryz.prog 13 #[.pointer none] w fun e w' => e = .returned (.int .i64 12) ∧ w = w' := by
  go_enter Tryz.func13, Tryz.ntmps13
  go_wp2
  go_ret
  exact ⟨rfl, rfl⟩
set_option maxRecDepth 20000 in
set_option maxHeartbeats 1600000 in
theorem rlsync_any {w : World} {F : Nat → Prop} {a b n : Nat} {S : Dsk} {L : Lg} (h : RD w F a n S) (hl : RL w b a L) (hb : ¬ F b) :
    Calls Tryz.prog 13 #[.pointer (some ⟨b, 0, none⟩)] w (RAppP w F a b n (S.wsync L)) := by
  have c7 := hl.c7
  have c0 := hl.c0
  have HB := Lib.hid hb
  have HL := Lib.hid hl
  cases hbad : L.bad with
  | true =>
    rw [hbad] at c7
    have HS : Hid (S.wsync L = (S, 12, L)) := by show _ = _; unfold Dsk.wsync; rw [if_pos hbad]
    have HD := Lib.hid h
    clear h hl hb hbad
    go_enter Tryz.func13, Tryz.ntmps13
    go_wp2
    go_ret
    rw [HS.out]
    exact ⟨F, rfl, HD.out, HL.out, Frm.refl _ _, fun x hx => .inl hx⟩
  | false =>
    rw [hbad] at c7
    have hsy := rsync_any h
    by_cases ha : S.ans true = 0
    · have HS : Hid (S.wsync L = (S.synced, 0, { L with syn := L.cnt })) := by show _ = _; unfold Dsk.wsync; rw [if_neg (by rw [hbad]; simp), if_neg (fun g => g ha)]
      rw [ha] at hsy
      clear h hl hb hbad ha
      go_enter Tryz.func13, Tryz.ntmps13
      go_wp2_with fail
      refine hsy.mono ?_
      rintro r w1 ⟨rfl, hd1, hf1⟩
      have hl1 := HL.out.keep hf1 HB.out
      have e5 := hl1.c5
      have e6 := hl1.c6
      have g6 := hl1.fr 6
      have HX := Lib.hid (show RD w1 F a n S.synced ∧ Frm F w w1 ∧ RL w1 b a L from ⟨hd1, hf1, hl1⟩)
      clear hd1 hf1 hl1 hsy c0 c7
      go_wp2
      go_ret
      rw [HS.out]
      refine ⟨F, rfl, HX.out.1.keep (frm_set _ _ _ _) (fun x e hx => HB.out (e ▸ hx)), HX.out.2.2.set 6 _ rfl, ?_, fun x hx => .inl hx⟩
      exact (HX.out.2.1.more (fun x hx _ => .inl hx)).trans (frm_set _ _ _ _) (fun x e => .inl (.inr e))
    · have HS : Hid (S.wsync L = (S.synced, S.ans true, { L with bad := true })) := by show _ = _; unfold Dsk.wsync; rw [if_neg (by rw [hbad]; simp), if_pos ha]
      obtain ⟨x, hx⟩ : ∃ x, x = S.ans true := ⟨_, rfl⟩
      rw [← hx] at hsy HS ha
      have hne : (x != 0) = true := by simp [ha]
      clear h hl hb hbad ha hx
      go_enter Tryz.func13, Tryz.ntmps13
      go_wp2_with fail
      refine hsy.mono ?_
      rintro r w1 ⟨rfl, hd1, hf1⟩
      have hl1 := HL.out.keep hf1 HB.out
      have e7 := hl1.c7
      have g7 := hl1.fr 7
      have HX := Lib.hid (show RD w1 F a n S.synced ∧ Frm F w w1 ∧ RL w1 b a L from ⟨hd1, hf1, hl1⟩)
      clear hd1 hf1 hl1 hsy c0 c7
      go_wp2
      go_ret
      rw [HS.out]
      refine ⟨F, rfl, HX.out.1.keep (frm_set _ _ _ _) (fun x e hx => HB.out (e ▸ hx)), HX.out.2.2.set 7 _ rfl, ?_, fun x hx => .inl hx⟩
      exact (HX.out.2.1.more (fun x hx _ => .inl hx)).trans (frm_set _ _ _ _) (fun x e => .inl (.inr e))
end

section
open Go.RowKit


set_option maxHeartbeats 400000 in
theorem rwapp_nil (A : Option Addr) (len cap : Nat) (w : World) : Calls Tryz.prog 10 #[.pointer none, .slice A len cap] w fun e w' => e = .returned (.int .i64 12) ∧ w = w' := by
  go_enter Tryz.func10, Tryz.ntmps10
  go_wp2
  go_ret
  exact ⟨rfl, rfl⟩

set_option maxRecDepth 20000 in
set_option maxHeartbeats 6400000 in
theorem rwapp_any {w : World} {F : Nat → Prop} {a b n : Nat} {S : Dsk} {L : Lg} (h : RD w F a n S) (hl : RL w b a L) (hb : ¬ F b) (hok : L.Ok n) (A : Option Addr) (len cap B : Nat) (d : List UInt8) (hA : Has w B A len (d.map bv)) (hcap : A = none → cap = 0) (hlen : len ≤ 1000000) (hB : B ≤ w.heap.size) :
    Calls Tryz.prog 10 #[.pointer (some ⟨b, 0, none⟩), .slice A len cap] w (RAppP w F a b n (S.wapp n L d)) := by
  have c7 := hl.c7
  have hbl := lt_of_some hl
  have HB := Lib.hid hb
  have HL := Lib.hid hl
  have HD := Lib.hid h
  have HFl : Hid (∀ x, F x → x < w.heap.size) := h.lt
  have HA := Lib.hid hA
  have hdl : Hid (d.length = len) := hA.from8
  cases hbad : L.bad with
  | true =>
    rw [hbad] at c7
    have HS := Lib.hid (wapp_bad (S := S) (n := n) (d := d) hbad)
    clear h hl hb hbad hA hok
    go_enter Tryz.func10, Tryz.ntmps10
    go_wp2
    go_ret
    rw [HS.out]
    exact ⟨F, rfl, HD.out, HL.out, Frm.refl _ _, fun x hx => .inl hx⟩
  | false =>
    rw [hbad] at c7
    have HBAD := Lib.hid hbad
    obtain ⟨hz, hz0, hz1, hz2, hcn, _⟩ := lg_small h.ok.n4 hok
    have c3 := hl.c3
    have c5 := hl.c5
    have hcnb : (L.cnt : Int) ≤ 300000 := by omega
    obtain ⟨ev, hev⟩ : ∃ z, z = nv L.e := ⟨_, rfl⟩
    obtain ⟨cn, hcne⟩ : ∃ z : Int, z = (L.cnt : Int) := ⟨_, rfl⟩
    have hq := sq_nv L.cnt (by omega)
    rw [← hcne] at hq
    have hcn0 : 0 ≤ cn := by omega
    have hcn1 : cn ≤ 300000 := by omega
    have hwc : IntKind.u32.wrap cn = cn := by rw [IntKind.wrap_u32]; omega
    rw [← hev] at c3
    rw [← hcne] at c5
    have HDd := Lib.hid (h.below ((Below.refl w.heap.size w).drew))
    by_cases hbig : 1024 < len
    · have HS := Lib.hid (wapp_lim (S := S) (n := n) hbad (by rw [hdl.out]; exact hbig))
      have henc := fun v => refEncode_no L.e (sq L.cnt) A len cap v hbig (by omega)
      rw [← hev, hq] at henc
      clear h hl hb hbad hA hok hz hz0 hz1 hz2 hcn hcnb hev hcne hq
      go_enter Tryz.func10, Tryz.ntmps10
      go_wp2
      go_region_held3 (fun W => W.cell? ⟨b, 3, none⟩ = some (.int .u32 ev) ∧ W.cell? ⟨b, 5, none⟩ = some (.int .i64 cn)) (go_keep)
        (first
          | (go_at_call 40
             refine (henc _).mono ?_
             rintro r w' ⟨rfl, rfl⟩))
      go_wp2
      go_ret
      rw [HS.out]
      have hbd := (Below.refl w.heap.size w).drew
      exact ⟨F, rfl, HD.out.below hbd, HL.out.below hbd, Frm.of_below hbd, fun x hx => .inl hx⟩
    · have henc := refEncode_yes L.e (sq L.cnt) A len cap B d w.drew (HA.out.below ((Below.refl B w).drew)) hcap (by omega) hB
      rw [← hev, hq] at henc
      obtain ⟨M, hM⟩ : ∃ M, M = 14 + len := ⟨_, rfl⟩
      rw [← hM] at henc
      have hM1 : M ≤ 1038 := by omega
      have HME := Lib.hid (show (M : Int) = 14 + (d.length : Int) by rw [hdl.out]; omega)
      have HMN := Lib.hid (show M = 14 + d.length by rw [hdl.out]; exact hM)
      have HNB := Lib.hid (show ¬ 1024 < d.length by rw [hdl.out]; exact hbig)
      have c1 := hl.c1
      have c2 := hl.c2
      have c4 := hl.c4
      have c0 := hl.c0
      have hs := fun v => rsizex_any v L.f L.c
      obtain ⟨xz, hxz⟩ : ∃ z, z = xsize L.c := ⟨_, rfl⟩
      rw [← hxz] at hs hz0 hz1 hz2 hz
      have HXZ := Lib.hid hxz
      obtain ⟨fi, hfi⟩ : ∃ z : Int, z = (L.fin : Int) := ⟨_, rfl⟩
      rw [← hfi] at c4 hz2
      have HFI := Lib.hid hfi
      have hf0 : 0 ≤ fi := by omega
      have hw : IntKind.i64.wrap (xz - fi) = xz - fi := by rw [IntKind.wrap_i64]; omega
      have HCN := Lib.hid hcne
      have hcc : L.c ≤ 9223372036854775807 := by omega
      obtain ⟨f, hfe⟩ : ∃ z, z = L.f := ⟨_, rfl⟩
      obtain ⟨c, hce⟩ : ∃ z, z = L.c := ⟨_, rfl⟩
      rw [← hfe] at c1 hs
      rw [← hce] at c2 hs hcc hz
      have HFE := Lib.hid hfe
      have HCE := Lib.hid hce
      clear h hl hb hbad hA hok hz hcn hcnb hev hcne hq hxz hfi hfe hce hM
      go_enter Tryz.func10, Tryz.ntmps10
      go_wp2
      go_region_held3 (fun W => W.cell? ⟨b, 3, none⟩ = some (.int .u32 ev) ∧ W.cell? ⟨b, 5, none⟩ = some (.int .i64 cn)) (first | exact ⟨s1, s2⟩ | go_keep)
        (first
          | (go_at_call 40
             refine henc.mono ?_
             rintro r w1 ⟨⟨v1, rfl, hown1⟩, hb1⟩
             obtain ⟨Af, cf, rfl, _, hMc⟩ := Has.of_own hown1
             have HFR := Lib.hid (hasF_own hown1 (fun x hx => HFl.out x hx))
             have HB1 := Lib.hid (show Below w.heap.size w w1 from ((Below.refl w.heap.size w).drew).trans hb1)
             have s1 := (hb1.cell (p := ⟨b, 3, none⟩) (cell_lt (w := w) c3)).trans c3
             have s2 := (hb1.cell (p := ⟨b, 5, none⟩) (cell_lt (w := w) c5)).trans c5
             have d0 := (hb1.cell (p := ⟨b, 0, none⟩) (cell_lt (w := w) c0)).trans c0
             have d1 := (hb1.cell (p := ⟨b, 1, none⟩) (cell_lt (w := w) c1)).trans c1
             have d2 := (hb1.cell (p := ⟨b, 2, none⟩) (cell_lt (w := w) c2)).trans c2
             have d4 := (hb1.cell (p := ⟨b, 4, none⟩) (cell_lt (w := w) c4)).trans c4
             clear hown1 hb1 c0 c1 c2 c4 henc))
      clear c3 c5 s1 s2 c7
      go_wp2
      go_region_held3 (fun W => W.cell? ⟨b, 1, none⟩ = some (.int .i64 f) ∧ W.cell? ⟨b, 2, none⟩ = some (.int .i64 c) ∧ W.cell? ⟨b, 4, none⟩ = some (.int .i64 fi)) (first | exact ⟨s1, s2, s3⟩ | go_keep)
        (first
          | (go_at_call 41
             refine (hs _).mono ?_
             rintro r w2 ⟨rfl, hb2⟩
             have HB2 := Lib.hid (((Below.refl w1.heap.size w1).drew).trans hb2)
             have s1 := (hb2.cell (p := ⟨b, 1, none⟩) (cell_lt (w := w1) d1)).trans d1
             have s2 := (hb2.cell (p := ⟨b, 2, none⟩) (cell_lt (w := w1) d2)).trans d2
             have s3 := (hb2.cell (p := ⟨b, 4, none⟩) (cell_lt (w := w1) d4)).trans d4
             have s0 := (hb2.cell (p := ⟨b, 0, none⟩) (cell_lt (w := w1) d0)).trans d0
             clear hb2))
      have HBW := Lib.hid (HB1.out.trans (HB2.out.mono HB1.out.size))
      have HLW := Lib.hid (HL.out.below HBW.out)
      clear d0 d1 d2 d4 hs
      by_cases hfull : xz - fi < (M : Int)
      · have HS := Lib.hid (wapp_full (S := S) (n := n) HBAD.out HNB.out (by rw [← HXZ.out, ← HFI.out, ← HME.out]; exact hfull))
        go_wp2
        go_ret
        rw [HS.out]
        exact ⟨F, rfl, HD.out.below HBW.out, HLW.out, Frm.of_below HBW.out, fun x hx => .inl hx⟩
      · have HNF := Lib.hid hfull
        have hge : ¬ xz - fi < (M : Int) := hfull
        have hbd := (Below.refl w2.heap.size w2).drew
        have hwr := rxwrite_any (HD.out.below (HBW.out.trans (hbd.mono HBW.out.size))) f c fi Af M cf (frameB L.e (sq L.cnt) d) hcc (by omega) (by omega) hMc ((HFR.out.keep (G := F) (Frm.of_below (F := F) HB2.out) (fun x hx => .inl hx)).keep (G := F) (Frm.of_below (F := F) hbd) (fun x hx => .inl hx))
        obtain ⟨T, x, hW⟩ : ∃ T x, S.xwrite n f c fi (frameB L.e (sq L.cnt) d) = (T, x) := ⟨_, _, rfl⟩
        rw [hW] at hwr
        dsimp only at hwr
        have hW2 : S.xwrite n L.f L.c L.fin (frameB L.e (sq L.cnt) d) = (T, x) := by rw [← HFE.out, ← HCE.out, ← HFI.out]; exact hW
        have HW := Lib.hid hW2
        have HBN : Hid (w.heap.size ≤ w2.drew.heap.size) := HBW.out.size
        have HFB := Lib.hid (hbl)
        clear hW hW2 hfull hbd
        go_wp2
        go_region_held3 (fun W => W.cell? ⟨b, 0, none⟩ = some (.pointer (some ⟨a, 0, none⟩)) ∧ W.cell? ⟨b, 1, none⟩ = some (.int .i64 f) ∧ W.cell? ⟨b, 2, none⟩ = some (.int .i64 c) ∧ W.cell? ⟨b, 4, none⟩ = some (.int .i64 fi)) (first | exact ⟨t0, t1, t2, t4⟩ | go_keep)
          (first
            | (go_at_call 42
               refine hwr.mono ?_
               rintro r w3 ⟨rfl, hd3, hf3⟩
               have t0 := (hf3.cell (p := ⟨b, 0, none⟩) (cell_lt s0) HB.out).trans s0
               have t1 := (hf3.cell (p := ⟨b, 1, none⟩) (cell_lt s1) HB.out).trans s1
               have t2 := (hf3.cell (p := ⟨b, 2, none⟩) (cell_lt s2) HB.out).trans s2
               have t4 := (hf3.cell (p := ⟨b, 4, none⟩) (cell_lt s3) HB.out).trans s3
               have HX := Lib.hid (show RD w3 (fun x => F x ∨ newF w2.drew w3 x) a n T ∧ Frm F w w3 ∧ RL w3 b a L from ⟨hd3, (Frm.of_below (HBW.out.trans (((Below.refl w2.heap.size w2).drew).mono HBW.out.size))).trans' hf3, (HLW.out.below ((Below.refl w2.heap.size w2).drew)).keep hf3 HB.out⟩)
               clear hd3 hf3))
        clear s0 s1 s2 s3 t0 t1 t2 t4 hwr
        have HG : Hid (∀ x, (F x ∨ newF w2.drew w3 x) → F x ∨ w.heap.size ≤ x) := fun x hx => hx.imp id fun h => Nat.le_trans HBN.out h.1
        have HGB : Hid (∀ x, x = b → (F x ∨ newF w2.drew w3 x) → False) := fun x e hx => by
          subst e
          rcases hx with hx | hx
          · exact HB.out hx
          · exact Nat.lt_irrefl _ (Nat.lt_of_lt_of_le HFB.out (Nat.le_trans HBN.out hx.1))
        have hl3 := HX.out.2.2
        by_cases hx0 : x = 0
        · subst hx0
          have HS := Lib.hid (wapp_yes HBAD.out HNB.out (by rw [← HXZ.out, ← HFI.out, ← HME.out]; first | exact HNF.out | exact Int.not_lt.2 HNF.out) HW.out)
          have e4 := hl3.c4
          have g4 := hl3.fr 4
          rw [← HFI.out] at e4
          have hsum : fi + (M : Int) ≤ 300000 := by omega
          have hl4 : RL (w3.setCell ⟨b, 4, none⟩ (.int .i64 (fi + (M : Int)))) b a { L with fin := L.fin + (14 + d.length) } := hl3.set 4 _ (by rw [HFI.out, HME.out]; simp)
          have e5 := hl4.c5
          have g5 := hl4.fr 5
          have e5' : (w3.setCell ⟨b, 4, none⟩ (.int .i64 (fi + (M : Int)))).cell? ⟨b, 5, none⟩ = some (.int .i64 cn) := by rw [e5, HCN.out]
          have HL4 := Lib.hid hl4
          clear e5 hl3 hl4
          go_wp2
          go_ret
          rw [HS.out]
          refine ⟨fun x => F x ∨ newF w2.drew w3 x, rfl, (HX.out.1.keep (frm_set _ _ _ _) HGB.out).keep (frm_set _ _ _ _) HGB.out, ?_, ?_, HG.out⟩
          · exact HL4.out.set 5 _ (by rw [HCN.out]; simp)
          · exact ((HX.out.2.1.more (fun x hx _ => .inl hx)).trans (frm_set _ _ _ _) (fun x e => .inl (.inr e))).trans (frm_set _ _ _ _) (fun x e => .inl (.inr e))
        · have HS := Lib.hid (wapp_err HBAD.out HNB.out (by rw [← HXZ.out, ← HFI.out, ← HME.out]; first | exact HNF.out | exact Int.not_lt.2 HNF.out) HW.out hx0)
          have hne : (x != 0) = true := by simp [hx0]
          have e7 := hl3.c7
          have g7 := hl3.fr 7
          clear hl3 hx0
          go_wp2
          go_ret
          rw [HS.out]
          refine ⟨fun x => F x ∨ newF w2.drew w3 x, rfl, HX.out.1.keep (frm_set _ _ _ _) HGB.out, HX.out.2.2.set 7 _ rfl, ?_, HG.out⟩
          exact (HX.out.2.1.more (fun x hx _ => .inl hx)).trans (frm_set _ _ _ _) (fun x e => .inl (.inr e))
end

end Go.Proofs.YtngomoolmncbaaaGreat
