/-
Contract of the program's Open of a log.
Contracts of the methods of the program's log: Failed, Records, Synced, Free, Sync.
-/
import Derived.Test.YtbcfjkfkkklgbaaB17
import Derived.Deep.RegionHeld3
namespace Go.Proofs.Ytbcfjkfkkklgbaa
section
open Go.RowKit

set_option maxHeartbeats 400000 in
theorem bequal_any (A1 A2 : Option Addr) (n1 c1 n2 c2 B : Nat) (l m : List UInt8) (w : World) (h1 : Has w B A1 n1 (l.map bv)) (h2 : Has w B A2 n2 (m.map bv)) :
    Calls Try.prog 94 #[.slice A1 n1 c1, .slice A2 n2 c2] w fun e w' => e = .returned (.bool (eqL l m)) ∧ w = w' := by
  have e1 := str_has w A1 n1 c1 B l h1
  have e2 := str_has w A2 n2 c2 B m h2
  have HE : Hid (((bs l).toList == (bs m).toList) = eqL l m) := by
    show _ = _
    rw [toList_ls, toList_ls, ls_bs, ls_bs]
    unfold eqL
    by_cases h : l = m
    · subst h; simp
    · rw [decide_eq_false h, beq_eq_false_iff_ne]; exact h
  clear h1 h2
  go_enter Try.func94, Try.ntmps94
  go_wp2
  go_ret
  exact ⟨ret_bool (by rw [← HE.out]), rfl⟩

/-- What erasing makes. -/
def Dsk.werase (S : Dsk) (n : Nat) (f c k : Int) (r : List UInt8) : Dsk × Int := if zeroL r = true then (S, 0) else S.xwrite n f c k (List.replicate r.length 0)
theorem wclean_werase (S : Dsk) (n : Nat) (f c : Int) (l : List UInt8) (k : Nat) : S.wclean n f c l k = S.werase n f c k (l.drop k) := by
  unfold Dsk.wclean Dsk.werase
  rw [List.length_drop]
theorem eqL_zero (r : List UInt8) : ∀ m, r.length = m → eqL r (List.replicate m 0) = zeroL r := by
  induction r with
  | nil => intro m h; subst h; rfl
  | cons x r ih =>
    intro m h
    subst h
    have := ih r.length rfl
    simp only [List.length_cons, List.replicate_succ, eqL, zeroL, List.all_cons, List.cons.injEq, Bool.decide_and] at this ⊢
    rw [this]
    rfl
theorem hasF_row {F : Nat → Prop} {w : World} {g m : Nat} (hr : Row w g 5 (zeros m)) (hF : ¬ F g) : HasF F w (some ⟨g, 0, none⟩) m ((List.replicate m (0 : UInt8)).map bv) := by
  have h := has_of_row (l := List.replicate m (0 : UInt8)) (n := m) (by simpa [Row, Proofs.Ytbcfjkfkkklgbaa.zeros, bv] using hr) (by simp)
  exact ⟨h.1, fun h0 => by
    obtain ⟨b, off, e, hb, hc⟩ := h.2 h0
    injection e with e
    injection e with e1 e2 _
    subst e1 e2
    exact ⟨_, _, rfl, hb, hF, hc⟩⟩

set_option maxRecDepth 20000 in
set_option maxHeartbeats 1600000 in
theorem erase_any {w : World} {F : Nat → Prop} {a n : Nat} {S T : Dsk} {x : Int} (h : PD w F a n S) (f c k : Int) (A : Option Addr) (m q : Nat) (r : List UInt8) (hf0 : f ≤ 9223372036854775807) (hk : k ≤ 9223372036854775807) (hm : m ≤ 1000000) (_hq : m ≤ q) (hA : HasF F w A m (r.map bv)) (hW : S.werase n f c k r = (T, x)) :
    Calls Try.prog 63 #[.pointer (some ⟨a, 0, none⟩), .agg #[.int .i64 f, .int .i64 c], .int .i64 k, .slice A m q] w fun e w' => ∃ G : Nat → Prop, e = .returned (.int .i64 x) ∧ PD w' G a n T ∧ Frm F w w' ∧ (∀ b, G b → F b ∨ w.heap.size ≤ b) := by
  have hrl : r.length = m := by simpa using hA.1
  have HRL := Lib.hid hrl
  have hb0 : Below w.heap.size w (w.alloc (.cells #[.int .i64 f, .int .i64 c] 32)) := (Below.refl _ _).alloc (Nat.le_refl _) _
  have hl := heap_alloc_last w (.cells #[.int .i64 f, .int .i64 c] 32)
  have HL := Lib.hid hl
  have HB0 := Lib.hid hb0
  have HH := Lib.hid h
  have HFl : Hid (∀ b, F b → b < w.heap.size) := h.lt
  have HAA := Lib.hid hA
  have hff : Hid (f ≤ 9223372036854775807) := hf0
  have HK : Hid (k ≤ 9223372036854775807) := hk
  have HW := Lib.hid hW
  clear hrl hb0 hl h hA hW hf0 hk
  go_enter Try.func63, Try.ntmps63
  go_wp2_with (at_make; refine wpList_make_bytes _ rfl _ _ (by exact rfl) m (by exact rfl) (by exact rfl) (by omega) ?_; intro w1 g hg hgl hr hgr)
  have hbX := Below.grown (Below.refl (w.alloc (.cells #[.int .i64 f, .int .i64 c] 32)).heap.size (w.alloc (.cells #[.int .i64 f, .int .i64 c] 32))) hgr (Nat.le_refl _) (fun k e => by cases e)
  have hb1 := HB0.out.trans (hbX.mono HB0.out.size)
  have z0 : w1.cell? ⟨w.heap.size, 0, none⟩ = some (.int .i64 f) := (hbX.cell (p := ⟨w.heap.size, 0, none⟩) (by simp)).trans (cell_of_row _ _ 0 _ _ _ HL.out)
  have z1 : w1.cell? ⟨w.heap.size, 1, none⟩ = some (.int .i64 c) := (hbX.cell (p := ⟨w.heap.size, 1, none⟩) (by simp)).trans (cell_of_row _ _ 1 _ _ _ HL.out)
  have hF1 : Frm F w w1 := Frm.of_below hb1
  have hZ : HasF F w1 (some ⟨g, 0, none⟩) m ((List.replicate m (0 : UInt8)).map bv) := hasF_row hr (fun hb => Nat.lt_irrefl _ (Nat.lt_of_lt_of_le (HFl.out _ hb) (Nat.le_trans HB0.out.size hg)))
  have HZ := Lib.hid hZ
  have HD1 := Lib.hid (HH.out.below hb1)
  have HF1 := Lib.hid hF1
  have heq := bequal_any A (some ⟨g, 0, none⟩) m q m m w1.heap.size r (List.replicate m 0) w1 (HAA.out.keep (G := F) hF1 (fun b hb => .inl hb)).has hZ.has
  rw [eqL_zero r m HRL.out] at heq
  clear hbX hb1 hF1 hZ hg hgl hr hgr
  cases hz : zeroL r with
  | true =>
    rw [hz] at heq
    have HE : Hid (T = S ∧ x = 0) := by
      have := HW.out
      rw [Dsk.werase, if_pos hz] at this
      injection this with h1 h2
      exact ⟨h1.symm, h2.symm⟩
    clear hz
    go_wp2_with fail
    refine heq.mono ?_
    rintro r w2 ⟨rfl, rfl⟩
    go_wp2
    go_ret
    rw [HE.out.1, HE.out.2]
    exact ⟨F, rfl, HD1.out, HF1.out, fun b hb => .inl hb⟩
  | false =>
    rw [hz] at heq
    have hw := HW.out
    rw [Dsk.werase, if_neg (by rw [hz]; simp), HRL.out] at hw
    have hwr := xwrite_any HD1.out f c k (some ⟨g, 0, none⟩) m m (List.replicate m 0) hff.out HK.out (by omega) (Nat.le_refl _) HZ.out
    rw [hw] at hwr
    dsimp only at hwr
    clear hz hw
    go_wp2_with fail
    refine heq.mono ?_
    rintro r w2 ⟨rfl, rfl⟩
    go_wp2_with fail
    refine hwr.mono ?_
    rintro r w3 ⟨rfl, hd3, hf3⟩
    have HX := Lib.hid (And.intro hd3 hf3)
    clear hd3 hf3
    go_wp2
    go_ret
    exact ⟨_, rfl, HX.out.1, HF1.out.trans' HX.out.2, fun b hb => hb.imp id fun g => Nat.le_trans HF1.out.size g.1⟩

set_option maxRecDepth 20000 in
set_option maxHeartbeats 12800000 in
theorem pwopen_any {w : World} {F : Nat → Prop} {a n : Nat} {S : Dsk} (h : PD w F a n S) (f c : Int) (e : W32) (hf0 : f ≤ 9223372036854775807) :
    Calls Try.prog 11 #[.pointer (some ⟨a, 0, none⟩), .agg #[.int .i64 f, .int .i64 c], .int .u32 (nv e)] w (POpenP w F a n (S.wopen n f c e)) := by
  have hb0 : Below w.heap.size w (w.alloc (.cells #[.int .i64 f, .int .i64 c] 32)) := (Below.refl _ _).alloc (Nat.le_refl _) _
  have hl := heap_alloc_last w (.cells #[.int .i64 f, .int .i64 c] 32)
  have hzF : Hid (¬ F w.heap.size) := fun hb => Nat.lt_irrefl _ (h.lt _ hb)
  have H1d := Lib.hid (h.below (hb0.trans (((Below.refl (w.alloc (.cells #[.int .i64 f, .int .i64 c] 32)).heap.size (w.alloc (.cells #[.int .i64 f, .int .i64 c] 32))).drew).mono hb0.size)))
  have HFd := Lib.hid (Frm.of_below (F := F) (hb0.trans (((Below.refl (w.alloc (.cells #[.int .i64 f, .int .i64 c] 32)).heap.size (w.alloc (.cells #[.int .i64 f, .int .i64 c] 32))).drew).mono hb0.size)))
  have z0 : (w.alloc (.cells #[.int .i64 f, .int .i64 c] 32)).cell? ⟨w.heap.size, 0, none⟩ = some (.int .i64 f) := cell_of_row _ _ 0 _ _ _ hl
  have z1 : (w.alloc (.cells #[.int .i64 f, .int .i64 c] 32)).cell? ⟨w.heap.size, 1, none⟩ = some (.int .i64 c) := cell_of_row _ _ 1 _ _ _ hl
  have HFl : Hid (∀ b, F b → b < w.heap.size) := h.lt
  have hok := Lib.hid h.ok
  have hff : Hid (f ≤ 9223372036854775807) := hf0
  have hxs : Hid (xsize c ≤ 9223372036854775807) := by
    show _ ≤ _
    unfold xsize
    split <;> omega
  clear h hb0 hl hf0
  by_cases h2 : (S.xread n f c 0 (xsize c)).2.1 = 0
  · have hx : xvalid n f c = true := by
      cases hx : xvalid n f c with
      | true => rfl
      | false =>
        rw [xread_err (by rw [xerr_bad hx]; decide), xerr_bad hx] at h2
        exact absurd (show (1 : Int) = 0 from h2) (by decide)
    have hpar := Lib.hid (xvalid_parts hx)
    have hlen := xread_len hok.out hx h2
    have hop := wopen_3 (e := e) hx h2
    obtain ⟨T, l, hRD⟩ : ∃ T l, S.xread n f c 0 (xsize c) = (T, 0, l) := ⟨(S.xread n f c 0 (xsize c)).1, (S.xread n f c 0 (xsize c)).2.2, Prod.ext rfl (Prod.ext h2 rfl)⟩
    rw [hRD] at hlen hop
    dsimp only at hlen hop
    obtain ⟨ps, s, hK⟩ : ∃ ps s, scanB (l.length + 1) l e 0 = (ps, s) := ⟨_, _, rfl⟩
    have hse := (scanB_end (l.length + 1) l e 0).1
    have hcnt := scanB_count (l.length + 1) l e 0
    rw [hK] at hop hse hcnt
    dsimp only at hse hcnt
    have hL2 : l.length ≤ 262144 := by have := hpar.out; have := hok.out.n4; omega
    have hL3 : 64 ≤ l.length := by have := hpar.out; omega
    have HRD := Lib.hid hRD
    have HOP := Lib.hid hop
    have HK := Lib.hid hK
    clear hRD hop hK h2 hx hlen
    go_enter Try.func11, Try.ntmps11
    go_wp2
    have ca := size_any (w.alloc (.cells #[.int .i64 f, .int .i64 c] 32)).drew f c
    go_region_held3 (fun W => W.cell? ⟨w.heap.size, 0, none⟩ = some (.int .i64 f) ∧ W.cell? ⟨w.heap.size, 1, none⟩ = some (.int .i64 c)) (first | exact ⟨s1, s2⟩ | go_keep)
      (first
        | (go_at_call 44
           refine ca.mono ?_
           rintro r wA ⟨rfl, hbA⟩
           have s1 := (hbA.cell (p := ⟨w.heap.size, 0, none⟩) (cell_lt (w := (w.alloc (.cells #[.int .i64 f, .int .i64 c] 32))) z0)).trans z0
           have s2 := (hbA.cell (p := ⟨w.heap.size, 1, none⟩) (cell_lt (w := (w.alloc (.cells #[.int .i64 f, .int .i64 c] 32))) z1)).trans z1
           have HA := Lib.hid (H1d.out.below hbA)
           have HFA := Lib.hid (HFd.out.trans' (Frm.of_below hbA))
           have cb := xread_any HA.out f c 0 (xsize c) hff.out (by omega) hxs.out
           rw [HRD.out] at cb
           dsimp only at cb
           clear hbA)
        | (go_at_call 38
           refine cb.mono ?_
           rintro r wB ⟨v3, rfl, ⟨A3, m3, q3, rfl, hA3, hq3, hv3⟩, hd3, hf3⟩
           have HV3 := Lib.hid (hv3 F (fun b hb => Nat.lt_of_lt_of_le (HFl.out b hb) HFA.out.size))
           have HD3 := Lib.hid hd3
           have HF3 := Lib.hid (HFA.out.trans' hf3)
           have HS3 := Lib.hid HFA.out.size
           have s3 := (hf3.cell (p := ⟨w.heap.size, 0, none⟩) (cell_lt s1) hzF.out).trans s1
           have s4 := (hf3.cell (p := ⟨w.heap.size, 1, none⟩) (cell_lt s2) hzF.out).trans s2
           have s1 := s3
           have s2 := s4
           clear hv3 hd3 hf3 s3 s4))
    have hm3 : l.length = m3 := HV3.out.has.from8
    have HM3 := Lib.hid hm3
    rw [hm3] at hse hL2 hL3
    clear hm3
    obtain ⟨b3, o3, rfl, _, _, _⟩ := HV3.out.2 (by omega)
    have hsc := scan_all e (some ⟨b3, o3, none⟩) m3 q3 _ l wB HV3.out.has (fun e => by cases e) hq3 (by omega) (Nat.le_refl _)
    go_wp2_with fail
    refine hsc.mono ?_
    rintro r w5 ⟨⟨v5, vs5, rfl, hown5, hM5⟩, hb5⟩
    rw [HK.out] at hown5 hM5 ⊢
    dsimp only at hown5 hM5 ⊢
    have hN5 := (NewR.of_scan hown5 hM5)
    obtain ⟨A5, c5, rfl, _, _⟩ := Has.of_own hown5
    obtain ⟨hi, hhi⟩ : ∃ hi, hi = w5.heap.size := ⟨_, rfl⟩
    have HN5 := Lib.hid (hN5.mono HF3.out.size (Nat.le_refl _))
    rw [← hhi] at HN5
    have HHI : Hid (hi = w5.heap.size) := hhi
    have HD5 := Lib.hid (HD3.out.below hb5)
    have HF5 := Lib.hid (HF3.out.trans' (Frm.of_below hb5))
    have HA5 := Lib.hid (HV3.out.keep (G := F) (Frm.of_below (F := F) hb5) (fun b hb => .inl hb))
    have HL5 : Hid (∀ b, F b → b < w.heap.size) := HFl.out
    have x1 := (hb5.cell (p := ⟨w.heap.size, 0, none⟩) (cell_lt s1)).trans s1
    have x2 := (hb5.cell (p := ⟨w.heap.size, 1, none⟩) (cell_lt s2)).trans s2
    have hpsb : ps.length ≤ 262144 := by omega
    have hsb : (s : Int) ≤ 262144 := by omega
    have hmb : (m3 : Int) ≤ 262144 := by omega
    obtain ⟨T2, x6, hcl⟩ : ∃ T2 x6, T.werase n f c s (l.drop s) = (T2, x6) := ⟨_, _, rfl⟩
    have HCL : Hid (T.wclean n f c l s = (T2, x6)) := by show _ = _; rw [wclean_werase, hcl]
    clear hown5 hM5 hN5 hb5 hsc s1 s2 z0 z1 hcnt ca cb hhi
    by_cases hcap : s = q3
    · subst hcap
      obtain rfl : s = m3 := by omega
      have hNN : ∀ k : Nat, k - k = 0 := Nat.sub_self
      have hera := erase_any (HD5.out.below ((Below.refl w5.heap.size w5).drew)) f c s (some ⟨b3, o3, none⟩) 0 0 (l.drop s) hff.out (by omega) (by omega) (by omega) ((show HasF F w5 (some ⟨b3, o3, none⟩) 0 ((l.drop s).map bv) by rw [List.drop_of_length_le (by rw [HM3.out]; omega)]; exact hasF_nil).keep (G := F) (Frm.of_below (F := F) ((Below.refl w5.heap.size w5).drew)) (fun b hb => .inl hb)) hcl
      go_wp2
      go_region_held3 (fun W => W.cell? ⟨w.heap.size, 0, none⟩ = some (.int .i64 f) ∧ W.cell? ⟨w.heap.size, 1, none⟩ = some (.int .i64 c)) (first | exact ⟨s1, s2⟩ | go_keep)
        (first
          | (go_at_call 63
             refine hera.mono ?_
             rintro r w6 ⟨G, rfl, hd6, hf6, hG6⟩
             have s1 := (hf6.cell (p := ⟨w.heap.size, 0, none⟩) (cell_lt (w := w5) x1) hzF.out).trans x1
             have s2 := (hf6.cell (p := ⟨w.heap.size, 1, none⟩) (cell_lt (w := w5) x2) hzF.out).trans x2
             have HY := Lib.hid (show PD w6 G a n T2 ∧ Frm F w w6 ∧ (∀ b, G b → F b ∨ w.heap.size ≤ b) ∧ (∀ b, G b → b < w.heap.size ∨ hi ≤ b) ∧ ¬ G w.heap.size ∧ NewR w.heap.size hi w6 (.slice A5 ps.length c5) ps ∧ hi ≤ w6.heap.size from
               ⟨hd6, HF5.out.trans' ((Frm.of_below ((Below.refl w5.heap.size w5).drew)).trans' hf6), fun b hb => (hG6 b hb).imp id (fun g => Nat.le_trans HF5.out.size g), fun b hb => (hG6 b hb).imp (HL5.out b) (fun g => Nat.le_trans (Nat.le_of_eq HHI.out) g), fun hb => (hG6 _ hb).elim hzF.out (fun g => Nat.lt_irrefl _ (Nat.lt_of_lt_of_le (cell_lt (w := w5) x1) g)),
                (HN5.out.keep (F := fun _ => False) (Frm.of_below ((Below.refl w5.heap.size w5).drew)) (fun b hb => hb.elim)).keep hf6 (fun b hb => .inl (HL5.out b hb)), Nat.le_trans (Nat.le_of_eq HHI.out) hf6.size⟩)
             clear hd6 hf6 hG6))
      clear x1 x2
      by_cases h6 : x6 = 0
      · subst h6
        have HW : Hid (S.wopen n f c e = T2.woC f c e (ps, s)) := by
          show _ = _
          rw [HOP.out, woB_ok (by rw [show (ps, s).2 = s from rfl, HCL.out]), show (ps, s).2 = s from rfl, HCL.out]
        have hsy := sync_any HY.out.1
        by_cases ha : T2.ans true = 0
        · rw [ha] at hsy
          have HW2 := Lib.hid (HW.out.trans (woC_ok ha))
          clear ha
          have y1 := s1
          have y2 := s2
          clear s1 s2
          go_wp2_with fail
          refine hsy.mono ?_
          rintro r w8 ⟨rfl, hd8, hf8⟩
          have s1 := (hf8.cell (p := ⟨w.heap.size, 0, none⟩) (cell_lt y1) HY.out.2.2.2.2.1).trans y1
          have s2 := (hf8.cell (p := ⟨w.heap.size, 1, none⟩) (cell_lt y2) HY.out.2.2.2.2.1).trans y2
          have HX := Lib.hid (show PD w8 G a n T2.synced ∧ Frm F w w8 ∧ NewR w.heap.size hi w8 (.slice A5 ps.length c5) ps ∧ hi ≤ w8.heap.size from ⟨hd8, HY.out.2.1.trans hf8 HY.out.2.2.1, HY.out.2.2.2.2.2.1.keep hf8 HY.out.2.2.2.1, Nat.le_trans HY.out.2.2.2.2.2.2 hf8.size⟩)
          clear hd8 hf8 y1 y2 hsy
          go_wp2
          go_ret3
          have hbA := (Below.refl w8.heap.size w8).alloc (Nat.le_refl _) (.cells #[.pointer (some ⟨a, 0, none⟩), .int .i64 f, .int .i64 c, .int .u32 (nv e), .int .i64 (s : Int), .int .i64 (ps.length : Int), .int .i64 (ps.length : Int), .int .i64 0] 84)
          rw [HW2.out]
          refine ⟨G, .pointer (some ⟨w8.heap.size, 0, none⟩), .slice A5 ps.length c5, rfl, HX.out.1.below hbA, HX.out.2.1.trans' (Frm.of_below hbA), HY.out.2.2.1, .inr ⟨_, w8.heap.size, rfl, rfl, ⟨0, rfl, heap_alloc_last w8 _⟩, HX.out.2.1.size, fun hg => Nat.lt_irrefl _ (HX.out.1.lt _ hg)⟩, ?_⟩
          exact (HX.out.2.2.1.keep (F := fun _ => False) (Frm.of_below hbA) (fun b hb => hb.elim)).mono (Nat.le_refl _) (Nat.le_trans HX.out.2.2.2 hbA.size)
        · have HW2 := Lib.hid (HW.out.trans (woC_bad ha))
          obtain ⟨x, hx⟩ : ∃ x, x = T2.ans true := ⟨_, rfl⟩
          rw [← hx] at hsy ha HW2
          have hne : (x != 0) = true := by simp [ha]
          clear hx
          go_wp2_with fail
          refine hsy.mono ?_
          rintro r w8 ⟨rfl, hd8, hf8⟩
          have HX := Lib.hid (show PD w8 G a n T2.synced ∧ Frm F w w8 from ⟨hd8, HY.out.2.1.trans hf8 HY.out.2.2.1⟩)
          clear hd8 hf8 hsy s1 s2
          go_wp2
          go_ret3
          exact POpenP.no HW2.out HX.out.1 HX.out.2 HY.out.2.2.1
      · have hne : (x6 != 0) = true := by simp [h6]
        have HW : Hid (S.wopen n f c e = ⟨T2, x6, none, []⟩) := by
          show _ = _
          rw [HOP.out, woB_bad (by rw [show (ps, s).2 = s from rfl, HCL.out]; exact h6), show (ps, s).2 = s from rfl, HCL.out]
        clear h6
        go_wp2
        go_ret3
        exact POpenP.no HW.out HY.out.1 HY.out.2.1 HY.out.2.2.1
    · have hcap2 : ¬ q3 = s := fun e => hcap e.symm
      have hsq : s < q3 := by omega
      have hera := erase_any (HD5.out.below ((Below.refl w5.heap.size w5).drew)) f c s (some ⟨b3, o3 + s, none⟩) (m3 - s) (q3 - s) (l.drop s) hff.out (by omega) (by omega) (by omega) ((HA5.out.suf hse).keep (G := F) (Frm.of_below (F := F) ((Below.refl w5.heap.size w5).drew)) (fun b hb => .inl hb)) hcl
      go_wp2
      go_region_held3 (fun W => W.cell? ⟨w.heap.size, 0, none⟩ = some (.int .i64 f) ∧ W.cell? ⟨w.heap.size, 1, none⟩ = some (.int .i64 c)) (first | exact ⟨s1, s2⟩ | go_keep)
        (first
          | (go_at_call 63
             refine hera.mono ?_
             rintro r w6 ⟨G, rfl, hd6, hf6, hG6⟩
             have s1 := (hf6.cell (p := ⟨w.heap.size, 0, none⟩) (cell_lt (w := w5) x1) hzF.out).trans x1
             have s2 := (hf6.cell (p := ⟨w.heap.size, 1, none⟩) (cell_lt (w := w5) x2) hzF.out).trans x2
             have HY := Lib.hid (show PD w6 G a n T2 ∧ Frm F w w6 ∧ (∀ b, G b → F b ∨ w.heap.size ≤ b) ∧ (∀ b, G b → b < w.heap.size ∨ hi ≤ b) ∧ ¬ G w.heap.size ∧ NewR w.heap.size hi w6 (.slice A5 ps.length c5) ps ∧ hi ≤ w6.heap.size from
               ⟨hd6, HF5.out.trans' ((Frm.of_below ((Below.refl w5.heap.size w5).drew)).trans' hf6), fun b hb => (hG6 b hb).imp id (fun g => Nat.le_trans HF5.out.size g), fun b hb => (hG6 b hb).imp (HL5.out b) (fun g => Nat.le_trans (Nat.le_of_eq HHI.out) g), fun hb => (hG6 _ hb).elim hzF.out (fun g => Nat.lt_irrefl _ (Nat.lt_of_lt_of_le (cell_lt (w := w5) x1) g)),
                (HN5.out.keep (F := fun _ => False) (Frm.of_below ((Below.refl w5.heap.size w5).drew)) (fun b hb => hb.elim)).keep hf6 (fun b hb => .inl (HL5.out b hb)), Nat.le_trans (Nat.le_of_eq HHI.out) hf6.size⟩)
             clear hd6 hf6 hG6))
      clear x1 x2
      by_cases h6 : x6 = 0
      · subst h6
        have HW : Hid (S.wopen n f c e = T2.woC f c e (ps, s)) := by
          show _ = _
          rw [HOP.out, woB_ok (by rw [show (ps, s).2 = s from rfl, HCL.out]), show (ps, s).2 = s from rfl, HCL.out]
        have hsy := sync_any HY.out.1
        by_cases ha : T2.ans true = 0
        · rw [ha] at hsy
          have HW2 := Lib.hid (HW.out.trans (woC_ok ha))
          clear ha
          have y1 := s1
          have y2 := s2
          clear s1 s2
          go_wp2_with fail
          refine hsy.mono ?_
          rintro r w8 ⟨rfl, hd8, hf8⟩
          have s1 := (hf8.cell (p := ⟨w.heap.size, 0, none⟩) (cell_lt y1) HY.out.2.2.2.2.1).trans y1
          have s2 := (hf8.cell (p := ⟨w.heap.size, 1, none⟩) (cell_lt y2) HY.out.2.2.2.2.1).trans y2
          have HX := Lib.hid (show PD w8 G a n T2.synced ∧ Frm F w w8 ∧ NewR w.heap.size hi w8 (.slice A5 ps.length c5) ps ∧ hi ≤ w8.heap.size from ⟨hd8, HY.out.2.1.trans hf8 HY.out.2.2.1, HY.out.2.2.2.2.2.1.keep hf8 HY.out.2.2.2.1, Nat.le_trans HY.out.2.2.2.2.2.2 hf8.size⟩)
          clear hd8 hf8 y1 y2 hsy
          go_wp2
          go_ret3
          have hbA := (Below.refl w8.heap.size w8).alloc (Nat.le_refl _) (.cells #[.pointer (some ⟨a, 0, none⟩), .int .i64 f, .int .i64 c, .int .u32 (nv e), .int .i64 (s : Int), .int .i64 (ps.length : Int), .int .i64 (ps.length : Int), .int .i64 0] 84)
          rw [HW2.out]
          refine ⟨G, .pointer (some ⟨w8.heap.size, 0, none⟩), .slice A5 ps.length c5, rfl, HX.out.1.below hbA, HX.out.2.1.trans' (Frm.of_below hbA), HY.out.2.2.1, .inr ⟨_, w8.heap.size, rfl, rfl, ⟨0, rfl, heap_alloc_last w8 _⟩, HX.out.2.1.size, fun hg => Nat.lt_irrefl _ (HX.out.1.lt _ hg)⟩, ?_⟩
          exact (HX.out.2.2.1.keep (F := fun _ => False) (Frm.of_below hbA) (fun b hb => hb.elim)).mono (Nat.le_refl _) (Nat.le_trans HX.out.2.2.2 hbA.size)
        · have HW2 := Lib.hid (HW.out.trans (woC_bad ha))
          obtain ⟨x, hx⟩ : ∃ x, x = T2.ans true := ⟨_, rfl⟩
          rw [← hx] at hsy ha HW2
          have hne : (x != 0) = true := by simp [ha]
          clear hx
          go_wp2_with fail
          refine hsy.mono ?_
          rintro r w8 ⟨rfl, hd8, hf8⟩
          have HX := Lib.hid (show PD w8 G a n T2.synced ∧ Frm F w w8 from ⟨hd8, HY.out.2.1.trans hf8 HY.out.2.2.1⟩)
          clear hd8 hf8 hsy s1 s2
          go_wp2
          go_ret3
          exact POpenP.no HW2.out HX.out.1 HX.out.2 HY.out.2.2.1
      · have hne : (x6 != 0) = true := by simp [h6]
        have HW : Hid (S.wopen n f c e = ⟨T2, x6, none, []⟩) := by
          show _ = _
          rw [HOP.out, woB_bad (by rw [show (ps, s).2 = s from rfl, HCL.out]; exact h6), show (ps, s).2 = s from rfl, HCL.out]
        clear h6
        go_wp2
        go_ret3
        exact POpenP.no HW.out HY.out.1 HY.out.2.1 HY.out.2.2.1
  · obtain ⟨T, x, l, hRD⟩ : ∃ T x l, S.xread n f c 0 (xsize c) = (T, x, l) := ⟨_, _, _, rfl⟩
    have hop : S.wopen n f c e = ⟨T, x, none, []⟩ := by
      cases hx : xvalid n f c with
      | true =>
        rw [wopen_2 (e := e) hx h2, hRD]
      | false =>
        rw [wopen_1 hx]
        rw [xread_err (by rw [xerr_bad hx]; decide), xerr_bad hx] at hRD
        injection hRD with h1 h2
        injection h2 with h2 _
        rw [h1, h2]
    rw [hRD] at h2
    dsimp only at h2
    have hne : (x != 0) = true := by simp [h2]
    have HRD := Lib.hid hRD
    have HOP := Lib.hid hop
    clear hRD hop h2
    go_enter Try.func11, Try.ntmps11
    go_wp2
    have ca := size_any (w.alloc (.cells #[.int .i64 f, .int .i64 c] 32)).drew f c
    go_region_held3 (fun W => W.cell? ⟨w.heap.size, 0, none⟩ = some (.int .i64 f) ∧ W.cell? ⟨w.heap.size, 1, none⟩ = some (.int .i64 c)) (first | exact ⟨s1, s2⟩ | go_keep)
      (first
        | (go_at_call 44
           refine ca.mono ?_
           rintro r wA ⟨rfl, hbA⟩
           have s1 := (hbA.cell (p := ⟨w.heap.size, 0, none⟩) (cell_lt (w := (w.alloc (.cells #[.int .i64 f, .int .i64 c] 32))) z0)).trans z0
           have s2 := (hbA.cell (p := ⟨w.heap.size, 1, none⟩) (cell_lt (w := (w.alloc (.cells #[.int .i64 f, .int .i64 c] 32))) z1)).trans z1
           have HA := Lib.hid (H1d.out.below hbA)
           have HFA := Lib.hid (HFd.out.trans' (Frm.of_below hbA))
           have cb := xread_any HA.out f c 0 (xsize c) hff.out (by omega) hxs.out
           rw [HRD.out] at cb
           dsimp only at cb
           clear hbA)
        | (go_at_call 38
           refine cb.mono ?_
           rintro r wB ⟨v3, rfl, ⟨A3, m3, q3, rfl, hA3, hq3, hv3⟩, hd3, hf3⟩
           have HV3 := Lib.hid (hv3 F (fun b hb => Nat.lt_of_lt_of_le (HFl.out b hb) HFA.out.size))
           have HD3 := Lib.hid hd3
           have HF3 := Lib.hid (HFA.out.trans' hf3)
           have HS3 := Lib.hid HFA.out.size
           have s3 := (hf3.cell (p := ⟨w.heap.size, 0, none⟩) (cell_lt s1) hzF.out).trans s1
           have s4 := (hf3.cell (p := ⟨w.heap.size, 1, none⟩) (cell_lt s2) hzF.out).trans s2
           have s1 := s3
           have s2 := s4
           clear hv3 hd3 hf3 s3 s4))
    have HX := Lib.hid (show PD wB F a n T ∧ Frm F w wB from ⟨HD3.out, HF3.out⟩)
    go_wp2
    go_ret3
    exact POpenP.no HOP.out HX.out.1 HX.out.2 (fun b hb => .inl hb)
end

section
open Go.RowKit

section
variable {w : World} {b a : Nat} {L L' : Lg} {z z' : Int}
theorem PLz.c0 (h : PLz w b a L z) : w.cell? ⟨b, 0, none⟩ = some (.pointer (some ⟨a, 0, none⟩)) := cell_of_row w b 0 _ _ _ h
theorem PLz.c1 (h : PLz w b a L z) : w.cell? ⟨b, 1, none⟩ = some (.int .i64 L.f) := cell_of_row w b 1 _ _ _ h
theorem PLz.c2 (h : PLz w b a L z) : w.cell? ⟨b, 2, none⟩ = some (.int .i64 L.c) := cell_of_row w b 2 _ _ _ h
theorem PLz.c3 (h : PLz w b a L z) : w.cell? ⟨b, 3, none⟩ = some (.int .u32 (nv L.e)) := cell_of_row w b 3 _ _ _ h
theorem PLz.c4 (h : PLz w b a L z) : w.cell? ⟨b, 4, none⟩ = some (.int .i64 (L.fin : Int)) := cell_of_row w b 4 _ _ _ h
theorem PLz.c5 (h : PLz w b a L z) : w.cell? ⟨b, 5, none⟩ = some (.int .i64 (L.cnt : Int)) := cell_of_row w b 5 _ _ _ h
theorem PLz.c6 (h : PLz w b a L z) : w.cell? ⟨b, 6, none⟩ = some (.int .i64 (L.syn : Int)) := cell_of_row w b 6 _ _ _ h
theorem PLz.c7 (h : PLz w b a L z) : w.cell? ⟨b, 7, none⟩ = some (.int .i64 z) := cell_of_row w b 7 _ _ _ h
theorem PLz.fr (h : PLz w b a L z) (j : Nat) : w.frozen? ⟨b, j, none⟩ = false := by unfold PLz at h; simp [World.frozen?, h]
theorem PLz.set (h : PLz w b a L z) (j : Nat) (v : Value) (hL : (#[.pointer (some ⟨a, 0, none⟩), .int .i64 L.f, .int .i64 L.c, .int .u32 (nv L.e), .int .i64 (L.fin : Int), .int .i64 (L.cnt : Int), .int .i64 (L.syn : Int), .int .i64 z] : Array Value).setIfInBounds j v =
    #[.pointer (some ⟨a, 0, none⟩), .int .i64 L'.f, .int .i64 L'.c, .int .u32 (nv L'.e), .int .i64 (L'.fin : Int), .int .i64 (L'.cnt : Int), .int .i64 (L'.syn : Int), .int .i64 z']) : PLz (w.setCell ⟨b, j, none⟩ v) b a L' z' := by
  unfold PLz
  rw [set_field h, hL]
theorem PL.c0 (h : PL w b a L) : w.cell? ⟨b, 0, none⟩ = some (.pointer (some ⟨a, 0, none⟩)) := by obtain ⟨z, _, h⟩ := h; exact h.c0
theorem PL.c1 (h : PL w b a L) : w.cell? ⟨b, 1, none⟩ = some (.int .i64 L.f) := by obtain ⟨z, _, h⟩ := h; exact h.c1
theorem PL.c2 (h : PL w b a L) : w.cell? ⟨b, 2, none⟩ = some (.int .i64 L.c) := by obtain ⟨z, _, h⟩ := h; exact h.c2
theorem PL.c3 (h : PL w b a L) : w.cell? ⟨b, 3, none⟩ = some (.int .u32 (nv L.e)) := by obtain ⟨z, _, h⟩ := h; exact h.c3
theorem PL.c4 (h : PL w b a L) : w.cell? ⟨b, 4, none⟩ = some (.int .i64 (L.fin : Int)) := by obtain ⟨z, _, h⟩ := h; exact h.c4
theorem PL.c5 (h : PL w b a L) : w.cell? ⟨b, 5, none⟩ = some (.int .i64 (L.cnt : Int)) := by obtain ⟨z, _, h⟩ := h; exact h.c5
theorem PL.c6 (h : PL w b a L) : w.cell? ⟨b, 6, none⟩ = some (.int .i64 (L.syn : Int)) := by obtain ⟨z, _, h⟩ := h; exact h.c6
theorem PL.fr (h : PL w b a L) (j : Nat) : w.frozen? ⟨b, j, none⟩ = false := by obtain ⟨z, _, h⟩ := h; exact h.fr j
theorem PL.setF (h : PL w b a L) (v : Nat) : PL (w.setCell ⟨b, 4, none⟩ (.int .i64 (v : Int))) b a { L with fin := v } := by
  obtain ⟨z, e, h⟩ := h
  exact ⟨z, e, h.set 4 _ rfl⟩
theorem PL.setC (h : PL w b a L) (v : Nat) : PL (w.setCell ⟨b, 5, none⟩ (.int .i64 (v : Int))) b a { L with cnt := v } := by
  obtain ⟨z, e, h⟩ := h
  exact ⟨z, e, h.set 5 _ rfl⟩
theorem PL.setS (h : PL w b a L) (v : Nat) : PL (w.setCell ⟨b, 6, none⟩ (.int .i64 (v : Int))) b a { L with syn := v } := by
  obtain ⟨z, e, h⟩ := h
  exact ⟨z, e, h.set 6 _ rfl⟩
theorem PL.fail (h : PL w b a L) (x : Int) (hx : x ≠ 0) : PL (w.setCell ⟨b, 7, none⟩ (.int .i64 x)) b a { L with bad := true } := by
  obtain ⟨z, e, h⟩ := h
  exact ⟨x, by simp [hx], h.set 7 _ rfl⟩
end
/-- What Append and Sync of the program's log leave. -/
def PAppP (w : World) (F : Nat → Prop) (a b n : Nat) (R : Dsk × Int × Lg) (r : Ending) (w' : World) : Prop :=
  ∃ G : Nat → Prop, r = .returned (.int .i64 R.2.1) ∧ PD w' G a n R.1 ∧ PL w' b a R.2.2 ∧ Frm (fun x => F x ∨ x = b) w w' ∧ (∀ x, G x → F x ∨ w.heap.size ≤ x)

set_option maxHeartbeats 400000 in
theorem pfailed_nil (w : World) : Calls Try.prog 15 #[.pointer none] w fun e w' => e = .returned (.bool true) ∧ w = w' := by
  go_enter Try.func15, Try.ntmps15
  go_wp2
  go_ret
  exact ⟨rfl, rfl⟩
set_option maxHeartbeats 400000 in
theorem pfailed_any {w : World} {b a : Nat} {L : Lg} (h : PL w b a L) : Calls Try.prog 15 #[.pointer (some ⟨b, 0, none⟩)] w fun e w' => e = .returned (.bool L.bad) ∧ w = w' := by
  obtain ⟨z, hz, h⟩ := h
  have c7 := h.c7
  rw [← hz]
  clear h hz
  go_enter Try.func15, Try.ntmps15
  go_wp2
  go_ret
  exact ⟨rfl, rfl⟩
set_option maxHeartbeats 400000 in
theorem pfail_any {w : World} {b a : Nat} {L : Lg} (h : PL w b a L) (x : Int) (hx : x ≠ 0) : Calls Try.prog 64 #[.pointer (some ⟨b, 0, none⟩), .int .i64 x] w fun e w' => e = .returned (.int .i64 x) ∧ PL w' b a { L with bad := true } ∧ Frm (fun x => x = b) w w' := by
  have H := Lib.hid (show PL (w.setCell ⟨b, 7, none⟩ (.int .i64 x)) b a { L with bad := true } ∧ Frm (fun x => x = b) w (w.setCell ⟨b, 7, none⟩ (.int .i64 x)) from ⟨h.fail x hx, frm_set _ _ _ _⟩)
  obtain ⟨z, _, h⟩ := h
  have c7 := h.c7
  have g7 := h.fr 7
  clear h hx
  go_enter Try.func64, Try.ntmps64
  go_wp2
  go_ret
  exact ⟨rfl, H.out⟩
set_option maxHeartbeats 400000 in
theorem precords_nil (w : World) : Calls Try.prog 14 #[.pointer none] w fun e w' => e = .returned (.int .i64 0) ∧ w = w' := by
  go_enter Try.func14, Try.ntmps14
  go_wp2
  go_ret
  exact ⟨rfl, rfl⟩
set_option maxHeartbeats 400000 in
theorem precords_any {w : World} {b a : Nat} {L : Lg} (h : PL w b a L) : Calls Try.prog 14 #[.pointer (some ⟨b, 0, none⟩)] w fun e w' => e = .returned (.int .i64 (L.cnt : Int)) ∧ w = w' := by
  have c5 := h.c5
  clear h
  go_enter Try.func14, Try.ntmps14
  go_wp2
  go_ret
  exact ⟨rfl, rfl⟩
set_option maxHeartbeats 400000 in
theorem psynced_nil (w : World) : Calls Try.prog 17 #[.pointer none] w fun e w' => e = .returned (.int .i64 0) ∧ w = w' := by
  go_enter Try.func17, Try.ntmps17
  go_wp2
  go_ret
  exact ⟨rfl, rfl⟩
set_option maxHeartbeats 400000 in
theorem psynced_any {w : World} {b a : Nat} {L : Lg} (h : PL w b a L) : Calls Try.prog 17 #[.pointer (some ⟨b, 0, none⟩)] w fun e w' => e = .returned (.int .i64 (L.syn : Int)) ∧ w = w' := by
  have c6 := h.c6
  clear h
  go_enter Try.func17, Try.ntmps17
  go_wp2
  go_ret
  exact ⟨rfl, rfl⟩
set_option maxHeartbeats 400000 in
theorem pfree_nil (w : World) : Calls Try.prog 13 #[.pointer none] w fun e w' => e = .returned (.int .i64 0) ∧ w = w' := by
  go_enter Try.func13, Try.ntmps13
  go_wp2
  go_ret
  exact ⟨rfl, rfl⟩
set_option maxRecDepth 20000 in
set_option maxHeartbeats 1600000 in
theorem pfree_any {w : World} {b a n : Nat} {L : Lg} (h : PL w b a L) (hn : n ≤ 4096) (hok : L.Ok n) : Calls Try.prog 13 #[.pointer (some ⟨b, 0, none⟩)] w fun e w' => e = .returned (.int .i64 (xsize L.c - L.fin)) ∧ Below w.heap.size w w' := by
  obtain ⟨hz, hz0, hz1, hz2, _, _⟩ := lg_small hn hok
  have c1 := h.c1
  have c2 := h.c2
  have c4 := h.c4
  have hs := fun v => size_any v L.f L.c
  obtain ⟨xz, hxz⟩ : ∃ z, z = xsize L.c := ⟨_, rfl⟩
  rw [← hxz] at hs hz0 hz1 hz2 ⊢
  obtain ⟨fi, hfi⟩ : ∃ z : Int, z = (L.fin : Int) := ⟨_, rfl⟩
  rw [← hfi] at c4 hz2 ⊢
  have hf0 : 0 ≤ fi := by omega
  have hw : IntKind.i64.wrap (xz - fi) = xz - fi := by rw [IntKind.wrap_i64]; omega
  clear h hok hz hxz hfi
  generalize L.f = f at *
  generalize L.c = c at *
  go_enter Try.func13, Try.ntmps13
  go_wp2
  go_region_held3 (fun W => W.cell? ⟨b, 1, none⟩ = some (.int .i64 f) ∧ W.cell? ⟨b, 2, none⟩ = some (.int .i64 c) ∧ W.cell? ⟨b, 4, none⟩ = some (.int .i64 fi)) (first | exact ⟨s1, s2, s3⟩ | go_keep)
    (first
      | (go_at_call 44
         refine (hs _).mono ?_
         rintro r wA ⟨rfl, hbA⟩
         have s1 := (hbA.cell (p := ⟨b, 1, none⟩) (cell_lt (w := w) c1)).trans c1
         have s2 := (hbA.cell (p := ⟨b, 2, none⟩) (cell_lt (w := w) c2)).trans c2
         have s3 := (hbA.cell (p := ⟨b, 4, none⟩) (cell_lt (w := w) c4)).trans c4))
  go_wp2
  go_ret
  exact ⟨rfl, ((Below.refl w.heap.size w).drew).trans hbA⟩

set_option maxHeartbeats 400000 in
theorem plsync_nil (w : World) : Calls Try.prog 16 #[.pointer none] w fun e w' => e = .returned (.int .i64 12) ∧ w = w' := by
  go_enter Try.func16, Try.ntmps16
  go_wp2_with fail
  refine (pfailed_nil _).mono ?_
  rintro r w1 ⟨rfl, rfl⟩
  go_wp2
  go_ret
  exact ⟨rfl, rfl⟩
set_option maxRecDepth 20000 in
set_option maxHeartbeats 1600000 in
theorem plsync_any {w : World} {F : Nat → Prop} {a b n : Nat} {S : Dsk} {L : Lg} (h : PD w F a n S) (hl : PL w b a L) (hb : ¬ F b) :
    Calls Try.prog 16 #[.pointer (some ⟨b, 0, none⟩)] w (PAppP w F a b n (S.wsync L)) := by
  have hfa := pfailed_any hl
  have c0 := hl.c0
  have HB := Lib.hid hb
  have HL := Lib.hid hl
  cases hbad : L.bad with
  | true =>
    rw [hbad] at hfa
    have HS : Hid (S.wsync L = (S, 12, L)) := by show _ = _; unfold Dsk.wsync; rw [if_pos hbad]
    have HD := Lib.hid h
    clear h hl hb hbad
    go_enter Try.func16, Try.ntmps16
    go_wp2_with fail
    refine hfa.mono ?_
    rintro r w1 ⟨rfl, rfl⟩
    go_wp2
    go_ret
    rw [HS.out]
    exact ⟨F, rfl, HD.out, HL.out, Frm.refl _ _, fun x hx => .inl hx⟩
  | false =>
    rw [hbad] at hfa
    have hsy := sync_any h
    by_cases ha : S.ans true = 0
    · have HS : Hid (S.wsync L = (S.synced, 0, { L with syn := L.cnt })) := by show _ = _; unfold Dsk.wsync; rw [if_neg (by rw [hbad]; simp), if_neg (fun g => g ha)]
      rw [ha] at hsy
      clear h hl hb hbad ha
      go_enter Try.func16, Try.ntmps16
      go_wp2_with fail
      refine hfa.mono ?_
      rintro r w0 ⟨rfl, rfl⟩
      go_wp2_with fail
      refine hsy.mono ?_
      rintro r w1 ⟨rfl, hd1, hf1⟩
      have hl1 := HL.out.keep hf1 HB.out
      have e5 := hl1.c5
      have e6 := hl1.c6
      have g6 := hl1.fr 6
      have HX := Lib.hid (show PD w1 F a n S.synced ∧ Frm F w w1 ∧ PL w1 b a L from ⟨hd1, hf1, hl1⟩)
      clear hd1 hf1 hl1 hsy c0 hfa
      go_wp2
      go_ret
      rw [HS.out]
      refine ⟨F, rfl, HX.out.1.keep (frm_set _ _ _ _) (fun x e hx => HB.out (e ▸ hx)), HX.out.2.2.setS _, ?_, fun x hx => .inl hx⟩
      exact (HX.out.2.1.more (fun x hx _ => .inl hx)).trans (frm_set _ _ _ _) (fun x e => .inl (.inr e))
    · have HS : Hid (S.wsync L = (S.synced, S.ans true, { L with bad := true })) := by show _ = _; unfold Dsk.wsync; rw [if_neg (by rw [hbad]; simp), if_pos ha]
      obtain ⟨x, hx⟩ : ∃ x, x = S.ans true := ⟨_, rfl⟩
      rw [← hx] at hsy HS ha
      have hne : (x != 0) = true := by simp [ha]
      have HNZ := Lib.hid ha
      clear h hl hb hbad ha hx
      go_enter Try.func16, Try.ntmps16
      go_wp2_with fail
      refine hfa.mono ?_
      rintro r w0 ⟨rfl, rfl⟩
      go_wp2_with fail
      refine hsy.mono ?_
      rintro r w1 ⟨rfl, hd1, hf1⟩
      have hl1 := HL.out.keep hf1 HB.out
      have HX := Lib.hid (show PD w1 F a n S.synced ∧ Frm F w w1 ∧ PL w1 b a L from ⟨hd1, hf1, hl1⟩)
      clear hd1 hf1 hl1 hsy c0 hfa
      go_wp2_with fail
      refine (pfail_any HX.out.2.2 x HNZ.out).mono ?_
      rintro r w2 ⟨rfl, hl2, hf2⟩
      have HY := Lib.hid (And.intro hl2 hf2)
      clear hl2 hf2
      go_wp2
      go_ret
      rw [HS.out]
      refine ⟨F, rfl, HX.out.1.keep HY.out.2 (fun x e hx => HB.out (e ▸ hx)), HY.out.1, ?_, fun x hx => .inl hx⟩
      exact (HX.out.2.1.more (fun x hx _ => .inl hx)).trans HY.out.2 (fun x e => .inl (.inr e))
end

end Go.Proofs.Ytbcfjkfkkklgbaa
