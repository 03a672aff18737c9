/-
The contract of the reference's Write of an extent.
Arguments that came in: slices of bytes, and slices of such, read.
-/
import Derived.Test.YtngomoolmncbaaaGreatB20
import Derived.Test.YtngomoolmncbaaaGreatB16
import Derived.Test.YtngomoolmncbaaaGreatB06
import Derived.Deep.SlicePairs
import Derived.Deep.Slices
import Derived.Deep.Fields
import Derived.ChangeSame
namespace Go.Proofs.YtngomoolmncbaaaGreat
section
open Go.RowKit

theorem rwtrue {w : World} {F : Nat → Prop} {a n : Nat} {S : Dsk} (h : RD w F a n S) (i : Nat) (hi : i < n) (A : Option Addr) (cap : Nat) (l : List UInt8) (hA : HasF F w A 64 (l.map bv)) :
    Calls Tryz.prog 77 #[.pointer (some ⟨a, 0, none⟩), .int .i64 i, .slice A 64 cap] w fun e w' => e = .returned (.int .i64 (S.ans true)) ∧ RD w' (fun b => F b ∨ newF w w' b) a n (S.wrote true i l) ∧ Frm F w w' := by
  have := rwrite_any h (i : Int) A 64 cap l hA
  have hin : (inR n (i : Int) && decide (64 = 64)) = true := by simp [inR, hi]
  rw [hin] at this
  exact this
def xLen : Value → Nat
  | .slice _ n _ => n
  | _ => 0
theorem own8_hasF {F : Nat → Prop} {w : World} {g c n : Nat} {l : List UInt8} (h : Own8 w g c n l) (hg : ¬ F g) : HasF F w (some ⟨g, 0, none⟩) n (l.map bv) := by
  have hh := h.has
  exact ⟨hh.1, fun h0 => by
    obtain ⟨b, off, e, hb, hc⟩ := hh.2 h0
    injection e with e
    injection e with e1 e2 _
    subst e1 e2
    exact ⟨g, 0, rfl, hb, hg, hc⟩⟩
theorem rest_addr' {D : World} {g c s N : Nat} {l : List UInt8} (h : Own8 D g c N l) (hs : s ≤ N) :
    ∃ ad, (if c = s then some (⟨g, 0, none⟩ : Addr) else some ⟨g, s, none⟩) = some ad ∧ ∀ W, Below D.heap.size D W → ∀ j u, ((l.drop s).map bv)[j]? = some u → W.cell? (ad.add j) = some u := by
  refine ⟨if c = s then ⟨g, 0, none⟩ else ⟨g, s, none⟩, by split <;> rfl, fun W hb j u hj => ?_⟩
  have hl : l.length = N := h.len
  have hjl : j < ((l.drop s).map bv).length := (List.getElem?_eq_some_iff.1 hj).1
  simp at hjl
  have hc := own8_le h
  rw [if_neg (by omega), add_flat']
  rw [hb.cell (p := ⟨g, s + j, none⟩) (own8_lt h)]
  have := h.cell (j := s + j) (by omega)
  rw [this]
  rw [← hj]
  simp [List.getElem?_eq_getElem (show s + j < l.length by omega), List.getD_eq_getElem?_getD, bv_eq]
theorem pre_src {D : World} {g c s N : Nat} {l : List UInt8} (h : Own8 D g c N l) (hs : s ≤ N) : ∀ W, Below D.heap.size D W → ∀ j u, ((l.take s).map bv)[j]? = some u → W.cell? ((⟨g, 0, none⟩ : Addr).add j) = some u := by
  intro W hb j u hj
  have hl : l.length = N := h.len
  have hjl : j < ((l.take s).map bv).length := (List.getElem?_eq_some_iff.1 hj).1
  simp at hjl
  rw [add_flat', Nat.zero_add, hb.cell (p := ⟨g, j, none⟩) (own8_lt h), h.cell (j := j) (by omega), ← hj]
  simp [List.getElem?_eq_getElem (show j < l.length by omega), List.getElem?_take_of_lt (show j < s by omega), List.getD_eq_getElem?_getD, bv_eq]
theorem own8_frm3 {w w' : World} {F : Nat → Prop} {g c n : Nat} {l : List UInt8} (h : Own8 w g c n l) (hf : Frm F w w') (hg : ¬ F g) : Own8 w' g c n l := by
  obtain ⟨cur, hr, h2⟩ := h
  exact ⟨cur, (hf.block g hr.lt hg).trans hr, h2⟩
theorem rfinal {w w1 x : World} {F G : Nat → Prop} {a n : Nat} {S : Dsk} (h : RD x G a n S) (hG : ∀ b, G b → F b ∨ w1.heap.size ≤ b) (hF : ∀ b, F b → b < w.heap.size) (hw : w.heap.size ≤ w1.heap.size) (hx : w.heap.size ≤ x.heap.size) : RD x (fun b => F b ∨ newF w x b) a n S :=
  h.more (fun b hb => (hG b hb).elim .inl fun h1 => .inr ⟨by omega, h.lt b hb⟩) fun b hb => hb.elim (fun h1 => by have := hF b h1; omega) fun h => h.2

set_option maxRecDepth 20000 in
set_option maxHeartbeats 6400000 in
theorem rxwrite_any {w : World} {F : Nat → Prop} {a n : Nat} {S : Dsk} (h : RD w F a n S) (f c off : Int) (A : Option Addr) (len cap : Nat) (d : List UInt8) (hcc : c ≤ 9223372036854775807) (hoff : off ≤ 9223372036854775807) (hlen : len ≤ 1000000) (hlc : len ≤ cap) (hA : HasF F w A len (d.map bv)) :
    Calls Tryz.prog 42 #[.pointer (some ⟨a, 0, none⟩), .agg #[.int .i64 f, .int .i64 c], .int .i64 off, .slice A len cap] w fun e w' =>
      e = .returned (.int .i64 (S.xwrite n f c off d).2) ∧ RD w' (fun b => F b ∨ newF w w' b) a n (S.xwrite n f c off d).1 ∧ Frm F w w' := by
  have hdl : d.length = len := by simpa using hA.1
  have hb0 : Below w.heap.size w (w.alloc (.cells #[.int .i64 f, .int .i64 c] 23)) := (Below.refl _ _).alloc (Nat.le_refl _) _
  have hv := rcheck_any (h.below hb0) f c off (len : Int) hcc hoff (by omega)
  have hl := heap_alloc_last w (.cells #[.int .i64 f, .int .i64 c] 23)
  have hzF : Hid (¬ F w.heap.size) := fun hb => Nat.lt_irrefl _ (h.lt _ hb)
  have H0 := Lib.hid (h.below hb0)
  have HB0 := Lib.hid hb0
  have HL := Lib.hid hl
  have HFl : Hid (∀ b, F b → b < w.heap.size) := h.lt
  have hn4 := Lib.hid h.ok.n4
  have HA := Lib.hid hA
  clear h hb0 hl hA
  by_cases hx : xerr n f c off len = 0
  · rw [hx] at hv
    obtain ⟨f, c, off, m, rfl, rfl, rfl, hml, hc1, hfc, hom⟩ := xerr_fine hx
    obtain rfl : m = len := by omega
    rw [xwrite_fine (by rw [hdl]; exact hx), hdl]
    have HC : Hid (1 ≤ c ∧ f + c ≤ n ∧ off + m ≤ 64 * c) := ⟨hc1, hfc, hom⟩
    have hfb : (f : Int) ≤ 4096 := by have := hn4.out; omega
    have hmb : (m : Int) ≤ 262144 := by have := hn4.out; omega
    obtain ⟨R, hR⟩ : ∃ R, wrc f (ck off m) S d = R := ⟨_, rfl⟩
    rw [hR]
    have HR := Lib.hid hR
    have HLC := Lib.hid hlc
    have HDL := Lib.hid hdl
    clear hc1 hfc hom hcc hoff hlen hx hR hml hdl hlc
    obtain ⟨i5, hi5, hz0, hz1, hz2⟩ := info_parts infoU8
    go_enter Tryz.func42, Tryz.ntmps42
    go_wp2_with fail
    refine hv.mono ?_
    rintro e w1 ⟨rfl, hb1⟩
    have H1 := Lib.hid (H0.out.below hb1)
    have HB1 := Lib.hid (HB0.out.trans (hb1.mono HB0.out.size))
    have HA1 := Lib.hid (HA.out.keep (Frm.of_below (F := F) HB1.out) (G := F) fun _ h => .inl h)
    have z0 : w1.cell? ⟨w.heap.size, 0, none⟩ = some (.int .i64 f) := (hb1.cell (p := ⟨w.heap.size, 0, none⟩) (by simp)).trans (cell_of_row _ _ 0 _ _ _ HL.out)
    have hz8 : Hid (w.heap.size < w1.heap.size) := cell_lt z0
    clear hb1 hv
    go_wp2_with fail
    go_loopw [2, 3] (fun ov dv wr => ∃ (o lr cr : Nat) (Ar : Option Addr) (T : Dsk) (dd : List UInt8), ov = .int .i64 o ∧ dv = .slice Ar lr cr ∧ lr ≤ cr ∧ wr.cell? ⟨w.heap.size, 0, none⟩ = some (.int .i64 f) ∧
        Hid (HasF F w1 Ar lr (dd.map bv) ∧ o + lr ≤ 64 * c ∧ wrc f (ck o lr) T dd = R ∧ Frm F w1 wr ∧ ∃ G : Nat → Prop, RD wr G a n T ∧ ∀ b, G b → F b ∨ w1.heap.size ≤ b)) (fun _ dv _ => xLen dv)
    case atStart => exact ⟨off, m, cap, A, S, d, rfl, rfl, HLC.out, z0, HA1.out, HC.out.2.2, HR.out, Frm.refl F w1, F, H1.out, fun b hb => .inl hb⟩
    case round =>
      obtain ⟨o, lr, cr, Ar, T, dd, rfl, rfl, hlcr, z3, HI⟩ := hrel
      have hob : (o : Int) ≤ 262144 := by have := HI.out.2.1; have := HC.out; have := hn4.out; omega
      have hlb : (lr : Int) ≤ 262144 := by have := HI.out.2.1; have := HC.out; have := hn4.out; omega
      by_cases hr0 : 0 < lr
      · have hd : decide ((0 : Int) < (lr : Int)) = true := by simpa using hr0
        have hri : (0 : Int) < (lr : Int) := by omega
        have hst := Lib.hid (ck_pos (off := o) hr0)
        have hk1 := cklen_pos (off := o) hr0
        have hk2 := cklen_le o lr
        have hk3 := cklen_64 o lr
        have hfq : f + o / 64 < n := by have := HI.out.2.1; have := HC.out; omega
        obtain ⟨k, hk⟩ : ∃ k, k = cklen o lr := ⟨_, rfl⟩
        obtain ⟨q, hq⟩ : ∃ q, q = o / 64 := ⟨_, rfl⟩
        obtain ⟨p, hp⟩ : ∃ p, p = o % 64 := ⟨_, rfl⟩
        have hkmin : k = min lr (64 - p) := by rw [hk, hp]; rfl
        rw [← hk, ← hq, ← hp] at hst
        rw [← hk] at hk1 hk2 hk3
        rw [← hp] at hk3
        rw [← hq] at hfq
        have t0 : Int.tdiv (o : Int) 64 = (q : Int) := tdiv64 hq.symm
        have t1 : Int.tmod (o : Int) 64 = (p : Int) := by rw [Int.tmod_eq_emod_of_nonneg (by omega)]; omega
        have hmin := fun (W : World) (ts : Array TypeId) (t : TypeId) => min_two (P := Tryz.prog) W ts t (lr : Int) (64 - (p : Int)) (k : Int) (by omega)
        obtain ⟨t, ht⟩ : ∃ t, t = p + k := ⟨_, rfl⟩
        obtain ⟨s, hs⟩ : ∃ s, s = f + q := ⟨_, rfl⟩
        have hsr : (f : Int) + (q : Int) = (s : Int) := by omega
        have hsw : IntKind.i64.wrap ((f : Int) + (q : Int)) = (s : Int) := by rw [hsr, IntKind.wrap_i64]; omega
        have hsw2 : IntKind.i64.wrap (s : Int) = (s : Int) := by rw [IntKind.wrap_i64]; omega
        have hqw : IntKind.i64.wrap (q : Int) = (q : Int) := by rw [IntKind.wrap_i64]; omega
        have hpw : IntKind.i64.wrap (p : Int) = (p : Int) := by rw [IntKind.wrap_i64]; omega
        have hpb : (p : Int) ≤ 64 := by omega
        have hkb : (k : Int) ≤ 64 := by omega
        have hkl : (k : Int) ≤ (lr : Int) := by omega
        have hkc : (k : Int) ≤ (cr : Int) := by omega
        have hcr0 : ¬ cr = 0 := by omega
        have HQ := Lib.hid (And.intro hk1 (And.intro hk2 (And.intro hk3 (And.intro ht (And.intro hs hkmin)))))
        obtain ⟨b, ao, rfl, hbw, hbF, _⟩ := HI.out.1.2 hr0
        have hDL : Hid (dd.length = lr) := by show _ = _; have := HI.out.1.1; simpa using this
        have hxl : Hid ((dd.take k).length = k) := by show _ = _; have := hDL.out; simp; omega
        obtain ⟨G, hrdG, hGl⟩ := HI.out.2.2.2.2
        have HG := Lib.hid (And.intro hrdG hGl)
        have hsn : Hid (s < n) := by show _ < _; omega
        clear hk hq hp hkmin ht hs hk1 hk2 hk3 hrdG hGl hfq hbw hbF
        go_wp2_with fail
        go_quiet (fail)
        have HGd := Lib.hid (HG.out.1.below (drewN_bel _ wr nq))
        have HFd := Lib.hid (HI.out.2.2.2.1.trans' (Frm.of_below (F := F) (drewN_bel wr.heap.size wr nq)))
        have z4 : (wr.drewN nq).cell? ⟨w.heap.size, 0, none⟩ = some (.int .i64 f) := z3
        clear z3 hsw hsw2 hqw hpw t0 t1
        generalize wr.drewN nq = wx at *
        have hAx : Has wx wx.heap.size (some ⟨b, ao, none⟩) k ((dd.take k).map bv) := ((HI.out.1.keep HFd.out (G := F) fun _ h => .inl h).pre HQ.out.2.1).has
        have hown0 := own_empty wx 5
        have hb0 := (Below.refl wx.heap.size wx).alloc (Nat.le_refl _) (.cells #[] 5)
        have hA0 := hAx.alloc (Nat.le_refl _) (.cells #[] 5)
        have h63 : Hid (0 + k ≤ maxLen) := by show _ ≤ _; unfold maxLen; omega
        have hby : Hid ((0 + k) * 1 ≤ 140737488355328) := by show _ ≤ _; omega
        clear hAx
        by_cases hk64 : k < 64
        · have hk64b : decide ((k : Int) < 64) = true := by simp; omega
          go_wp2_with (at_builtin; refine wpList_app_has _ rfl _ _ 37 (by exact rfl) wx.heap.size 5 i5 (.int .u8 0) 1 tyBs hi5 hz0 hz1 hz2 rfl _ 0 _ (by exact rfl) hown0 (some ⟨b, ao, none⟩) k _ _ _ (by exact rfl) (fun e => by cases e) hA0 (one_bytes _) h63.out hby.out hb0 (Nat.le_refl _) ?_; intro vb w3 hownb hb3 hgb)
          have HG3 := Lib.hid (HGd.out.below hb3)
          have HF3 := Lib.hid (HFd.out.trans' (Frm.of_below (F := F) hb3))
          have hownb' : w3.ownsRow wx.heap.size 5 1 vb k ((dd.take k).map bv) := by
            rw [List.nil_append, Nat.zero_add] at hownb
            exact hownb
          obtain ⟨gb, cb, rfl, hgb', hob3⟩ := Own8.of hownb' HQ.out.1
          have HGB := Lib.hid (show ¬ G gb from fun hb => by have := HGd.out.lt gb hb; omega)
          have HOB := Lib.hid hob3
          have hrd := rread_any HG3.out (s : Int)
          have hin : inR n (s : Int) = true := by have := hsn.out; simp [inR, this]
          rw [hin] at hrd
          rw [show ((s : Int)).toNat = s by omega] at hrd
          clear hownb hownb' hgb hgb' hob3 hb3 hown0 hb0 hA0 hin
          refine hrd.mono ?_
          rintro e w4 ⟨v4, zz, rfl, hzz, hp4, hf4, _, hgood⟩
          have hxne : (dd.take k).length ≠ 64 := by rw [hxl.out]; omega
          by_cases ha : T.ans true = 0
          · obtain rfl : zz = 0 := hzz.trans ha
            obtain ⟨g, cg, rfl, hg, hog⟩ := hgood rfl
            have hcg : 64 ≤ cg := own8_le hog
            have hpc : (p : Int) ≤ (cg : Int) := by omega
            have hcg0 : ¬ cg = 0 := by omega
            have htb : t ≤ 64 := by have := HQ.out; omega
            have htr : (p : Int) + (k : Int) = (t : Int) := by have := HQ.out; omega
            have htw : IntKind.i64.wrap ((p : Int) + (k : Int)) = (t : Int) := by rw [htr, IntKind.wrap_i64]; omega
            have htv : IntKind.i64.wrap (t : Int) = (t : Int) := by rw [IntKind.wrap_i64]; omega
            have ht64 : (t : Int) ≤ 64 := by omega
            have HF4 := Lib.hid (HF3.out.trans hf4 HG.out.2)
            have HG4 := Lib.hid hp4
            have HSL := Lib.hid hog.len
            have HXN := Lib.hid (And.intro hxne ha)
            have hogd := own8_below hog ((Below.refl w4.heap.size w4).drew)
            have hobd := own8_below (own8_frm3 HOB.out hf4 HGB.out) ((Below.refl w4.heap.size w4).drew)
            have hs1 := Lib.hid (pre_src hogd (s := p) (by omega))
            have hs2 := Lib.hid (pre_src hobd (s := k) (Nat.le_refl _))
            obtain ⟨ad2, had2, hs3⟩ := rest_addr' hogd htb
            have hs3 := Lib.hid hs3
            have hn1 : Hid ((((T.sec s).take p).map bv).length = p * 1) := by show _ = _; have := HSL.out; simp; omega
            have hn2 : Hid ((((dd.take k).take k).map bv).length = k * 1) := by show _ = _; have := hDL.out; have := HQ.out.2.1; simp; omega
            have hn3 : Hid ((((T.sec s).drop t).map bv).length = (64 - t) * 1) := by show _ = _; have := HSL.out; simp; omega
            have hm63 : Hid (0 + p ≤ maxLen ∧ 0 + p + k ≤ maxLen ∧ 0 + p + k + (64 - t) ≤ maxLen) := by show _ ∧ _; unfold maxLen; omega
            have hmby : Hid ((0 + p) * 1 ≤ 140737488355328 ∧ (0 + p + k) * 1 ≤ 140737488355328 ∧ (0 + p + k + (64 - t)) * 1 ≤ 140737488355328) := by show _ ∧ _; omega
            have hbd0 := (Below.refl w4.drew.heap.size w4.drew).alloc (Nat.le_refl _) (.cells #[] 5)
            have hownd := own_empty w4.drew 5
            clear hgood hzz hrd hp4 hf4 hg hog hogd hobd hxne ha
            go_wp2_with fail
            go_region_held3 (fun _ => True) (first | trivial | go_keep)
              (first
                | (refine step_app rfl _ _ 37 (by exact rfl) w4.drew.heap.size 5 i5 (.int .u8 0) 1 tyBs hi5 hz0 hz1 hz2 rfl _ 0 [] (by exact rfl) hownd ⟨g, 0, none⟩ p cg _ (by exact rfl) hn1.out (hs1.out _ hbd0) (one_bytes _) hm63.out.1 hmby.out.1 hbd0 (Nat.le_refl _) ?_
                   intro va wa howna hba)
                | (refine step_app rfl _ _ 37 (by exact rfl) w4.drew.heap.size 5 i5 (.int .u8 0) 1 tyBs hi5 hz0 hz1 hz2 rfl va (0 + p) _ (by exact rfl) howna ⟨gb, 0, none⟩ k cb _ (by exact rfl) hn2.out (hs2.out _ hba) (one_bytes _) hm63.out.2.1 hmby.out.2.1 hba (Nat.le_refl _) ?_
                   intro vc wc hownc hbc)
                | (refine step_app rfl _ _ 37 (by exact rfl) w4.drew.heap.size 5 i5 (.int .u8 0) 1 tyBs hi5 hz0 hz1 hz2 rfl vc (0 + p + k) _ (by exact rfl) hownc ad2 (64 - t) (cg - t) _ (by exact rfl) hn3.out (hs3.out _ hbc) (one_bytes _) hm63.out.2.2 hmby.out.2.2 hbc (Nat.le_refl _) ?_
                   intro ve we howne hbe))
            have hownf : we.ownsRow w4.drew.heap.size 5 1 ve 64 ((splice (T.sec s) p (dd.take k)).map bv) := by
              have e1 : 0 + p + k + (64 - t) = 64 := by have := HQ.out; omega
              have e2 : [] ++ ((T.sec s).take p).map bv ++ ((dd.take k).take k).map bv ++ ((T.sec s).drop t).map bv = (splice (T.sec s) p (dd.take k)).map bv := by
                unfold splice
                rw [hxl.out, List.nil_append, List.take_take, Nat.min_self, HQ.out.2.2.2.1]
                simp
              rw [e1, e2] at howne
              exact howne
            obtain ⟨gf, cf, rfl, hgf, hof⟩ := Own8.of hownf (by omega)
            have HFe := Lib.hid ((HF4.out.trans' (Frm.of_below (F := F) ((Below.refl w4.heap.size w4).drew))).trans' (Frm.of_below (F := F) hbe))
            have HGd4 := Lib.hid (HG4.out.below ((Below.refl w4.heap.size w4).drew))
            have HGe := Lib.hid (HGd4.out.below hbe)
            have hwr := rwtrue HGe.out s hsn.out _ cf _ (own8_hasF hof (fun hb => by have := HGd4.out.lt gf hb; omega))
            clear howna hba hownc hbc howne hbe hownf hgf hof hbd0 hownd had2 htw htv htr ht64 hpc hcg0
            go_wp2_with fail
            obtain ⟨er, her⟩ : ∃ er, er = (T.done true).ans true := ⟨_, rfl⟩
            obtain ⟨T2, hT2⟩ : ∃ T2, T2 = (T.done true).wrote true s (splice (T.sec s) p (dd.take k)) := ⟨_, rfl⟩
            rw [← her, ← hT2] at hwr
            have HER : Hid (T.repl s p (dd.take k) = (T2, er)) := by show _ = _; rw [her, hT2]; exact repl_part HXN.out.1 HXN.out.2
            clear her hT2
            refine hwr.mono ?_
            rintro e w5 ⟨rfl, hp5, hf5⟩
            obtain ⟨G5, hp5, hG5⟩ : ∃ G5 : Nat → Prop, RD w5 G5 a n T2 ∧ ∀ b, G5 b → F b ∨ w1.heap.size ≤ b := ⟨_, hp5, fun b hb => hb.elim (HG.out.2 b) fun h => .inr (by have := h.1; have := HFe.out.size; omega)⟩
            have HF5 := Lib.hid (HFe.out.trans hf5 HG.out.2)
            have HG5 := Lib.hid (And.intro hp5 hG5)
            clear hp5 hG5 hf5 hwr
            obtain ⟨o2, ho2⟩ : ∃ o2, o2 = o + k := ⟨_, rfl⟩
            have ho2r : (o : Int) + (k : Int) = (o2 : Int) := by omega
            have ho2w : IntKind.i64.wrap ((o : Int) + (k : Int)) = (o2 : Int) := by rw [ho2r, IntKind.wrap_i64]; omega
            have ho2v : IntKind.i64.wrap (o2 : Int) = (o2 : Int) := by rw [IntKind.wrap_i64]; omega
            have HO2 := Lib.hid ho2
            clear ho2
            by_cases he : er = 0
            · have hez : (er == 0) = true := by simpa using he
              subst he
              by_cases hck : cr = k
              · subst hck
                go_wp2
                go_quiet (fail)
                go_wp2
                go_roundw
                case rel =>
                  have hz5 := (HF5.out.cell (p := ⟨w.heap.size, 0, none⟩) hz8.out hzF.out).trans z0
                  refine ⟨o2, 0, 0, some ⟨b, ao, none⟩, T2, dd.drop cr, rfl, rfl, by omega, hz5, ?_⟩
                  show _ ∧ _
                  refine ⟨by rw [List.drop_of_length_le (by have := hDL.out; omega)]; exact hasF_nil, by have := HI.out.2.1; have := HO2.out; omega, ?_, HF5.out.trans' (Frm.of_below (F := F) (drewN_bel _ _ _)), G5, HG5.out.1.below (drewN_bel _ _ _), HG5.out.2⟩
                  rw [← HI.out.2.2.1, hst.out, wrc_ok (by rw [← HQ.out.2.2.2.2.1, HER.out]), ← HQ.out.2.2.2.2.1, HER.out, HO2.out]
                  rw [show lr - cr = 0 by omega]
                case measure => have := HQ.out; simp [xLen]; omega
              · have hck' : ¬ cr = k := hck
                go_wp2
                go_quiet (fail)
                go_wp2
                go_roundw
                case rel =>
                  have hz5 := (HF5.out.cell (p := ⟨w.heap.size, 0, none⟩) hz8.out hzF.out).trans z0
                  refine ⟨o2, lr - k, cr - k, some ⟨b, ao + k, none⟩, T2, dd.drop k, rfl, rfl, by omega, hz5, ?_⟩
                  show _ ∧ _
                  refine ⟨HI.out.1.suf HQ.out.2.1, by have := HI.out.2.1; have := HO2.out; omega, ?_, HF5.out.trans' (Frm.of_below (F := F) (drewN_bel _ _ _)), G5, HG5.out.1.below (drewN_bel _ _ _), HG5.out.2⟩
                  rw [← HI.out.2.2.1, hst.out, wrc_ok (by rw [← HQ.out.2.2.2.2.1, HER.out]), ← HQ.out.2.2.2.2.1, HER.out, HO2.out]
                case measure => have := HQ.out; simp [xLen]; omega
            · have hez : (er == 0) = false := by simpa using he
              have hRe : R = (T2, er) := by rw [← HI.out.2.2.1, hst.out, wrc_err (by rw [← HQ.out.2.2.2.2.1, HER.out]; exact he), ← HQ.out.2.2.2.2.1, HER.out]
              have HRe := Lib.hid hRe
              clear hRe he
              go_wp2_with fail
              go_ret
              have hRe := HRe.out
              subst hRe
              have hfr := (Frm.of_below (F := F) HB1.out).trans' HF5.out
              exact ⟨rfl, rfinal HG5.out.1 HG5.out.2 HFl.out HB1.out.size hfr.size, hfr⟩
          · have hRe : R = (T.done true, T.ans true) := by
              have e := repl_err (p := p) (i := s) hxne ha
              rw [← HI.out.2.2.1, hst.out, wrc_err (by rw [← HQ.out.2.2.2.2.1, e]; exact ha), ← HQ.out.2.2.2.2.1, e]
            have hzn : (zz == 0) = false := by rw [hzz]; simpa using ha
            have HF4 := Lib.hid (HF3.out.trans hf4 HG.out.2)
            have H4 := Lib.hid (And.intro hp4 (And.intro hRe hzz))
            clear hp4 hf4 hgood hzz hrd ha hRe hxne
            go_wp2_with fail
            go_ret
            obtain ⟨hp4, hRe, hzz⟩ := H4.out
            subst hRe hzz
            have hfr := (Frm.of_below (F := F) HB1.out).trans' HF4.out
            exact ⟨rfl, rfinal hp4 HG.out.2 HFl.out HB1.out.size hfr.size, hfr⟩
        · have hk64b : decide ((k : Int) < 64) = false := by simp; omega
          go_wp2_with (at_builtin; refine wpList_app_has _ rfl _ _ 37 (by exact rfl) wx.heap.size 5 i5 (.int .u8 0) 1 tyBs hi5 hz0 hz1 hz2 rfl _ 0 _ (by exact rfl) hown0 (some ⟨b, ao, none⟩) k _ _ _ (by exact rfl) (fun e => by cases e) hA0 (one_bytes _) h63.out hby.out hb0 (Nat.le_refl _) ?_; intro vb w3 hownb hb3 hgb)
          have HG3 := Lib.hid (HGd.out.below hb3)
          have HF3 := Lib.hid (HFd.out.trans' (Frm.of_below (F := F) hb3))
          have hk64e : k = 64 := by have := HQ.out; omega
          have hownb' : w3.ownsRow wx.heap.size 5 1 vb 64 ((dd.take k).map bv) := by
            rw [List.nil_append, show 0 + k = 64 by omega] at hownb
            exact hownb
          obtain ⟨gb, cb, rfl, hgb', hob3⟩ := Own8.of hownb' (by omega)
          have hwr := rwtrue HG3.out s hsn.out _ cb _ (own8_hasF hob3 (fun hb => by have := HGd.out.lt gb hb; omega))
          clear hownb hownb' hgb hgb' hob3 hb3 hown0 hb0 hA0
          obtain ⟨er, her⟩ : ∃ er, er = T.ans true := ⟨_, rfl⟩
          obtain ⟨T2, hT2⟩ : ∃ T2, T2 = T.wrote true s (dd.take k) := ⟨_, rfl⟩
          rw [← her, ← hT2] at hwr
          have HER : Hid (T.repl s p (dd.take k) = (T2, er)) := by show _ = _; rw [her, hT2]; exact repl_full (by rw [hxl.out]; exact hk64e)
          clear her hT2
          refine hwr.mono ?_
          rintro e w5 ⟨rfl, hp5, hf5⟩
          obtain ⟨G5, hp5, hG5⟩ : ∃ G5 : Nat → Prop, RD w5 G5 a n T2 ∧ ∀ b, G5 b → F b ∨ w1.heap.size ≤ b := ⟨_, hp5, fun b hb => hb.elim (HG.out.2 b) fun h => .inr (by have := h.1; have := HF3.out.size; omega)⟩
          have HF5 := Lib.hid (HF3.out.trans hf5 HG.out.2)
          have HG5 := Lib.hid (And.intro hp5 hG5)
          clear hp5 hG5 hf5 hwr hk64e
          obtain ⟨o2, ho2⟩ : ∃ o2, o2 = o + k := ⟨_, rfl⟩
          have ho2r : (o : Int) + (k : Int) = (o2 : Int) := by omega
          have ho2w : IntKind.i64.wrap ((o : Int) + (k : Int)) = (o2 : Int) := by rw [ho2r, IntKind.wrap_i64]; omega
          have ho2v : IntKind.i64.wrap (o2 : Int) = (o2 : Int) := by rw [IntKind.wrap_i64]; omega
          have HO2 := Lib.hid ho2
          clear ho2
          by_cases he : er = 0
          · have hez : (er == 0) = true := by simpa using he
            subst he
            by_cases hck : cr = k
            · subst hck
              go_wp2
              go_quiet (fail)
              go_wp2
              go_roundw
              case rel =>
                have hz5 := (HF5.out.cell (p := ⟨w.heap.size, 0, none⟩) hz8.out hzF.out).trans z0
                refine ⟨o2, 0, 0, some ⟨b, ao, none⟩, T2, dd.drop cr, rfl, rfl, by omega, hz5, ?_⟩
                show _ ∧ _
                refine ⟨by rw [List.drop_of_length_le (by have := hDL.out; omega)]; exact hasF_nil, by have := HI.out.2.1; have := HO2.out; omega, ?_, HF5.out.trans' (Frm.of_below (F := F) (drewN_bel _ _ _)), G5, HG5.out.1.below (drewN_bel _ _ _), HG5.out.2⟩
                rw [← HI.out.2.2.1, hst.out, wrc_ok (by rw [← HQ.out.2.2.2.2.1, HER.out]), ← HQ.out.2.2.2.2.1, HER.out, HO2.out]
                rw [show lr - cr = 0 by omega]
              case measure => have := HQ.out; simp [xLen]; omega
            · have hck' : ¬ cr = k := hck
              go_wp2
              go_quiet (fail)
              go_wp2
              go_roundw
              case rel =>
                have hz5 := (HF5.out.cell (p := ⟨w.heap.size, 0, none⟩) hz8.out hzF.out).trans z0
                refine ⟨o2, lr - k, cr - k, some ⟨b, ao + k, none⟩, T2, dd.drop k, rfl, rfl, by omega, hz5, ?_⟩
                show _ ∧ _
                refine ⟨HI.out.1.suf HQ.out.2.1, by have := HI.out.2.1; have := HO2.out; omega, ?_, HF5.out.trans' (Frm.of_below (F := F) (drewN_bel _ _ _)), G5, HG5.out.1.below (drewN_bel _ _ _), HG5.out.2⟩
                rw [← HI.out.2.2.1, hst.out, wrc_ok (by rw [← HQ.out.2.2.2.2.1, HER.out]), ← HQ.out.2.2.2.2.1, HER.out, HO2.out]
              case measure => have := HQ.out; simp [xLen]; omega
          · have hez : (er == 0) = false := by simpa using he
            have hRe : R = (T2, er) := by rw [← HI.out.2.2.1, hst.out, wrc_err (by rw [← HQ.out.2.2.2.2.1, HER.out]; exact he), ← HQ.out.2.2.2.2.1, HER.out]
            have HRe := Lib.hid hRe
            clear hRe he
            go_wp2_with fail
            go_ret
            have hRe := HRe.out
            subst hRe
            have hfr := (Frm.of_below (F := F) HB1.out).trans' HF5.out
            exact ⟨rfl, rfinal HG5.out.1 HG5.out.2 HFl.out HB1.out.size hfr.size, hfr⟩
      · have hd : decide ((0 : Int) < (lr : Int)) = false := by simpa using hr0
        obtain ⟨G, hrdG, hGl⟩ := HI.out.2.2.2.2
        have hRe : R = (T, 0) := by rw [← HI.out.2.2.1, show lr = 0 by omega, ck_zero]; rfl
        have HRe := Lib.hid hRe
        have HG := Lib.hid (And.intro hrdG hGl)
        clear hRe hrdG hGl
        go_wp2_with fail
        go_ret
        have hRe := HRe.out
        subst hRe
        have hfr := (Frm.of_below (F := F) HB1.out).trans' HI.out.2.2.2.1
        exact ⟨rfl, rfinal HG.out.1 HG.out.2 HFl.out HB1.out.size hfr.size, hfr⟩
  · rw [xwrite_err (by rw [hdl]; exact hx), hdl]
    obtain ⟨er, her⟩ : ∃ er, er = xerr n f c off len := ⟨_, rfl⟩
    rw [← her] at hv hx ⊢
    have hne : (er == 0) = false := by simpa using hx
    clear hx her hdl
    go_enter Tryz.func42, Tryz.ntmps42
    go_wp2_with (go_at_call 75; refine hv.mono ?_; rintro e w1 ⟨rfl, hb1⟩)
    go_ret
    have hb := HB0.out.trans (hb1.mono HB0.out.size)
    exact ⟨rfl, (H0.out.below hb1).wide (Frm.of_below hb), Frm.of_below hb⟩
end

section
open Go.RowKit Go.ChangeShapes Go.WideShapes Go.Deep

section
variable {H : Type} {enc : TypeId × Value → H} {w : World} {held : Bool}
theorem spotL_of {a : Addr} {v : Value} (h : w.cell? (a.add 0) = some v) : a = ⟨a.block, a.off, none⟩ ∧ a.block < w.heap.size := by
  have hx0 : a.add 0 = a := by unfold Addr.add; simp
  rw [hx0] at h
  unfold World.cell? at h
  split at h
  · rename_i hh
    by_cases hs : a.spot.isSome = true
    · rw [if_pos hs] at h; cases h
    · have hn : a.spot = none := by simpa using hs
      exact ⟨by cases a; simp_all, (Array.getElem?_eq_some_iff.1 hh).1⟩
  · cases h
theorem addL_flat (b off j : Nat) : (⟨b, off, none⟩ : Addr).add j = ⟨b, off + j, none⟩ := by unfold Addr.add; split <;> simp_all
theorem opn8 {fuel : Nat} {A : Option Addr} {n c : Nat} {x : DataW H × List MemPlace} (h : DataW.trod enc Tryz.prog w 0 (fun _ => true) held fuel 37 [.slice A n c] = some x) : ∃ l, Arg8 w A n c l := by
  rcases open_ints tyBs tyU8 (by kernel_rfl) h with ⟨hcs, _⟩ | ⟨y, l, c', zs, hcs, _, hl, hm, hz, _, hcell, hwz⟩
  · simp at hcs
    obtain ⟨rfl, rfl, rfl⟩ := hcs
    exact arg8_of (zs := []) (.inl ⟨rfl, rfl, rfl, rfl⟩)
  · simp at hcs
    obtain ⟨rfl, rfl, rfl⟩ := hcs
    exact arg8_of (zs := zs) (.inr ⟨_, rfl, hl, hm, by simpa using hz, hcell, hwz⟩)
theorem slice_val {t e : TypeId} (ht : Tryz.prog.underlying t = some (.slice e)) {fuel : Nat} {v : Value} {x : DataW H × List MemPlace} (h : DataW.trod enc Tryz.prog w 0 (fun _ => true) held fuel t [v] = some x) : ∃ A n c, v = .slice A n c := by
  rcases open_slice ht h with ⟨hcs, _⟩ | ⟨a, len, cap, _, _, _, _, hcs, _⟩
  · simp at hcs; exact ⟨_, _, _, hcs⟩
  · simp at hcs; exact ⟨_, _, _, hcs⟩

/-- Slices of bytes that came in. -/
def In2 (w : World) (A : Option Addr) (n : Nat) (vs : List Value) (ps : List (List UInt8)) : Prop :=
  Has w w.heap.size A n vs ∧ vs.length = ps.length ∧ ∀ (i : Nat) (v : Value) (p : List UInt8), vs[i]? = some v → ps[i]? = some p → ∃ A' c', v = .slice A' p.length c' ∧ Arg8 w A' p.length c' p
theorem opn_lists {fuel : Nat} {A : Option Addr} {n c : Nat} {x : DataW H × List MemPlace} (h : DataW.trod enc Tryz.prog w 0 (fun _ => true) held fuel 48 [.slice A n c] = some x) : ∃ vs ps, In2 w A n vs ps := by
  rcases open_slice tyBss h with ⟨hcs, _⟩ | ⟨a, len, cap, m, q, D, Pl, hcs, _, hl, hm, hmm, _, hx⟩
  · simp at hcs
    obtain ⟨rfl, rfl, rfl⟩ := hcs
    exact ⟨[], [], Has.nil _ _ _, rfl, fun i v p h => by simp at h⟩
  · simp at hcs
    obtain ⟨rfl, rfl, rfl⟩ := hcs
    have hC : Tryz.prog.cellsOf 37 = 1 := by kernel_rfl
    have hnm : n ≤ m := by rw [hmm]; simp; omega
    have each : ∀ i, i < m → ∃ x : Value × List UInt8, w.cell? (a.add i) = some x.1 ∧ ∃ A' c', x.1 = .slice A' x.2.length c' ∧ Arg8 w A' x.2.length c' x.2 := by
      intro i hi
      obtain ⟨cs', hc, ht'⟩ := hx i hi
      rw [hC] at hc
      obtain ⟨_, hcl, hat⟩ := World.cells?_some hc
      obtain ⟨v, rfl⟩ := List.length_eq_one_iff.1 hcl
      have e0 := hat 0 (by omega)
      rw [Go.Deep.add_add] at e0
      obtain ⟨A', n', c', rfl⟩ := slice_val tyBs ht'
      obtain ⟨l, hl8⟩ := opn8 ht'
      obtain rfl : l.length = n' := hl8.len
      exact ⟨(_, l), by simpa using e0, A', c', rfl, hl8⟩
    have hall : ∃ f : Nat → Value × List UInt8, ∀ i, i < m → w.cell? (a.add i) = some (f i).1 ∧ ∃ A' c', (f i).1 = .slice A' (f i).2.length c' ∧ Arg8 w A' (f i).2.length c' (f i).2 := by
      refine ⟨fun i => if hi : i < m then Classical.choose (each i hi) else (.slice none 0 0, []), fun i hi => ?_⟩
      simp only [dif_pos hi]
      exact Classical.choose_spec (each i hi)
    obtain ⟨f, hf⟩ := hall
    refine ⟨(List.range n).map fun i => (f i).1, (List.range n).map fun i => (f i).2, ⟨by simp, fun h0 => ?_⟩, by simp, fun i v p h1 h2 => ?_⟩
    · obtain ⟨ea, hlt⟩ := spotL_of (a := a) (hf 0 (by omega)).1
      refine ⟨a.block, a.off, by rw [← ea], hlt, fun j hj => ?_⟩
      have hj' : j < n := by simpa using hj
      have g1 := (hf j (by omega)).1
      rw [ea, addL_flat] at g1
      simp only [List.getElem_map, List.getElem_range]
      exact g1
    · have hi : i < n := by have := (List.getElem?_eq_some_iff.1 h1).1; simpa using this
      simp only [List.getElem?_map, List.getElem?_range hi, Option.map_some, Option.some.injEq] at h1 h2
      subst h1 h2
      exact (hf i (by omega)).2
end

theorem In2.at_ {w : World} {A : Option Addr} {n : Nat} {vs : List Value} {ps : List (List UInt8)} (h : In2 w A n vs ps) {k : Nat} (hk : k < ps.length) :
    ∃ b off X c, A = some ⟨b, off, none⟩ ∧ b < w.heap.size ∧ w.cell? ⟨b, off + k, none⟩ = some (.slice X ps[k].length c) ∧ Arg8 w X ps[k].length c ps[k] := by
  obtain ⟨hA, hl, hh⟩ := h
  have hkv : k < vs.length := by rw [hl]; exact hk
  have hn : k < n := by rw [← hA.1]; exact hkv
  obtain ⟨b, off, e, hb, hc⟩ := hA.at_ hn
  obtain ⟨X, c, hv, h8⟩ := hh k vs[k] ps[k] (List.getElem?_eq_getElem hkv) (List.getElem?_eq_getElem hk)
  rw [hv] at hc
  exact ⟨b, off, X, c, e, hb, hc, h8⟩
theorem In2.many {w : World} {A : Option Addr} {n : Nat} {vs : List Value} {ps : List (List UInt8)} (h : In2 w A n vs ps) : ManyH w vs ps :=
  ⟨h.2.1, fun i v p h1 h2 => by
    obtain ⟨A', c', e, h8⟩ := h.2.2 i v p h1 h2
    exact ⟨A', c', e, h8.2.2.2, h8.2.1, h8.1⟩⟩
end

end Go.Proofs.YtngomoolmncbaaaGreat
