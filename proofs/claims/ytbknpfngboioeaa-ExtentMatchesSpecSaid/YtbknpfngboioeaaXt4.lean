/-
  The contract of extent.Write.
-/
import Derived.Test.YtbknpfngboioeaaXt3
import Derived.Deep.RegionHeld3
namespace Go.Proofs.Ytbknpfngboioeaa
open Go.RowKit

theorem wrc_err {f : Nat} {c : Nat × Nat × Nat} {cs : List (Nat × Nat × Nat)} {S : Dsk} {d : List UInt8} (h : (S.repl (f + c.1) c.2.1 (d.take c.2.2)).2 ≠ 0) : wrc f (c :: cs) S d = S.repl (f + c.1) c.2.1 (d.take c.2.2) := by simp [wrc, h]
theorem wrc_ok {f : Nat} {c : Nat × Nat × Nat} {cs : List (Nat × Nat × Nat)} {S : Dsk} {d : List UInt8} (h : (S.repl (f + c.1) c.2.1 (d.take c.2.2)).2 = 0) : wrc f (c :: cs) S d = wrc f cs (S.repl (f + c.1) c.2.1 (d.take c.2.2)).1 (d.drop c.2.2) := by simp [wrc, h]
theorem xwrite_err {S : Dsk} {n : Nat} {f c off : Int} {d : List UInt8} (h : xerr n f c off d.length ≠ 0) : S.xwrite n f c off d = (S, xerr n f c off d.length) := by simp [Dsk.xwrite, h]
theorem xwrite_fine {S : Dsk} {n f c off : Nat} {d : List UInt8} (h : xerr n f c off d.length = 0) : S.xwrite n f c off d = wrc f (ck off d.length) S d := by simp [Dsk.xwrite, h]
/-- How many bytes are written before the sector i. -/
def gone (off m i : Nat) : Nat := min m (64 * i - off)
theorem gone_start (off m : Nat) : gone off m (sp0 off m) = 0 := by unfold gone sp0; split <;> omega
theorem gone_step {off m i : Nat} (h0 : off / 64 ≤ i) (hm : 0 < m) (h1 : 64 * i < off + m) : gone off m (i + 1) = gone off m i + (pto off m i - pfrom off i) ∧ gone off m i + (pto off m i - pfrom off i) ≤ m := by unfold gone pto pfrom; omega
theorem HasF.pre {F : Nat → Prop} {w : World} {A : Option Addr} {m k : Nat} {l : List UInt8} (h : HasF F w A m (l.map bv)) (hk : k ≤ m) : HasF F w A k ((l.take k).map bv) :=
  ⟨by have := h.1; simp at this; simp; omega, fun h0 => by
    obtain ⟨b, off, e, hb, hn, hc⟩ := h.2 (by omega)
    refine ⟨b, off, e, hb, hn, fun j hj => ?_⟩
    rw [hc j (by simp at hj; simp; omega)]
    simp⟩
theorem HasF.suf {F : Nat → Prop} {w : World} {b off m k : Nat} {l : List UInt8} (h : HasF F w (some ⟨b, off, none⟩) m (l.map bv)) (hk : k ≤ m) : HasF F w (some ⟨b, off + k, none⟩) (m - k) ((l.drop k).map bv) :=
  ⟨by have := h.1; simp at this; simp; omega, fun h0 => by
    obtain ⟨b', off', e, hb, hn, hc⟩ := h.2 (by omega)
    injection e with e
    injection e with e1 e2 _
    subst e1 e2
    refine ⟨b, off + k, rfl, hb, hn, fun j hj => ?_⟩
    have := hc (k + j) (by simp at hj; simp; omega)
    rw [← Nat.add_assoc] at this
    rw [this]
    simp⟩
theorem hasF_nil {F : Nat → Prop} {w : World} {A : Option Addr} : HasF F w A 0 [] := ⟨rfl, fun h => absurd h (by omega)⟩

theorem pwide2 {w v v' x : World} {F : Nat → Prop} {a n : Nat} {S : Dsk} (h : PD x (fun b => (F b ∨ newF w v b) ∨ newF v' x b) a n S) (hs : w.heap.size ≤ v'.heap.size) : PD x (fun b => F b ∨ newF w x b) a n S :=
  h.more (fun b hb => hb.elim (fun hb => hb.elim .inl fun h1 => .inr ⟨h1.1, h.lt b (.inl (.inr h1))⟩) fun h => .inr ⟨by have := h.1; omega, h.2⟩) fun b hb => hb.elim (fun h1 => h.lt b (.inl (.inl h1))) fun h => h.2
theorem pwide3 {w w1 v v' x : World} {F : Nat → Prop} {a n : Nat} {S : Dsk} (h : PD x (fun b => (F b ∨ newF w1 v b) ∨ newF v' x b) a n S) (hs : w1.heap.size ≤ v'.heap.size) (hw : w.heap.size ≤ w1.heap.size) : PD x (fun b => F b ∨ newF w x b) a n S :=
  pwide (pwide2 h hs) hw

set_option maxRecDepth 20000 in
set_option maxHeartbeats 6400000 in
theorem xwrite_any {w : World} {F : Nat → Prop} {a n : Nat} {S : Dsk} (h : PD w F a n S) (f c off : Int) (A : Option Addr) (len cap : Nat) (d : List UInt8) (hf : f ≤ 9223372036854775807) (hoff : off ≤ 9223372036854775807) (hlen : len ≤ 1000000) (hlc : len ≤ cap) (hA : HasF F w A len (d.map bv)) :
    Calls Try.prog 30 #[.pointer (some ⟨a, 0, none⟩), .agg #[.int .i64 f, .int .i64 c], .int .i64 off, .slice A len cap] w fun e w' =>
      e = .returned (.int .i64 (S.xwrite n f c off d).2) ∧ PD w' (fun b => F b ∨ newF w w' b) a n (S.xwrite n f c off d).1 ∧ Frm F w w' := by
  have hdl : d.length = len := by simpa using hA.1
  have hb0 : Below w.heap.size w (w.alloc (.cells #[.int .i64 f, .int .i64 c] 50)) := (Below.refl _ _).alloc (Nat.le_refl _) _
  have hv := rangeError_any (h.below hb0) f c off (len : Int) hf hoff (by omega)
  have hl := heap_alloc_last w (.cells #[.int .i64 f, .int .i64 c] 50)
  have hzF : Hid (¬ F w.heap.size) := fun hb => Nat.lt_irrefl _ (h.lt _ hb)
  have H0 := Lib.hid (h.below hb0)
  have HB0 := Lib.hid hb0
  have HL := Lib.hid hl
  have HFl : Hid (∀ b, F b → b < w.heap.size) := h.lt
  have hn4 := Lib.hid h.ok.n4
  have HA := Lib.hid hA
  have HDL := Lib.hid hdl
  clear h hb0 hl hA
  by_cases hx : xerr n f c off len = 0
  · rw [hx] at hv
    obtain ⟨f, c, off, m, rfl, rfl, rfl, hml, hc1, hfc, hom⟩ := xerr_fine hx
    obtain rfl : m = len := by omega
    rw [xwrite_fine (by rw [hdl]; exact hx), hdl]
    have HC : Hid (1 ≤ c ∧ f + c ≤ n ∧ off + m ≤ 64 * c) := ⟨hc1, hfc, hom⟩
    have hmb : (m : Int) ≤ 262144 := by have := hn4.out; omega
    have hfb : (f : Int) ≤ 4096 := by have := hn4.out; omega
    have hsp := fun W => span_any off m W (by have := hn4.out; omega) (by have := hn4.out; omega)
    obtain ⟨i0, hi0⟩ : ∃ i0, i0 = sp0 off m := ⟨_, rfl⟩
    obtain ⟨i1, hi1⟩ : ∃ i1, i1 = sp1 off m := ⟨_, rfl⟩
    rw [← hi0, ← hi1] at hsp
    have hi1b : (i1 : Int) ≤ 4096 := by rw [hi1]; have := sp1_le hom; have := hn4.out; omega
    have HI0 := Lib.hid hi0
    have HI1 := Lib.hid hi1
    obtain ⟨R, hR⟩ : ∃ R, wrc f (ck off m) S d = R := ⟨_, rfl⟩
    rw [hR]
    have HR := Lib.hid hR
    have HLC := Lib.hid hlc
    clear hi0 hi1 hc1 hfc hom hf hoff hlen hx hR hml hdl hlc
    go_enter Try.func30, Try.ntmps30
    go_wp2_with (first
      | (go_at_call 63; refine hv.mono ?_; rintro e w1 ⟨rfl, hb1⟩
         have H1 := Lib.hid (H0.out.below hb1)
         have HB1 := Lib.hid (HB0.out.trans (hb1.mono HB0.out.size))
         have HA1 := Lib.hid (HA.out.keep (Frm.of_below (F := F) HB1.out) (G := F) fun _ h => .inl h)
         have z0 : w1.cell? ⟨w.heap.size, 0, none⟩ = some (.int .i64 f) := (hb1.cell (p := ⟨w.heap.size, 0, none⟩) (by simp)).trans (cell_of_row _ _ 0 _ _ _ HL.out)
         have HZ0 := Lib.hid z0
         clear hb1)
      | (go_at_call 64; refine (hsp _).mono ?_; rintro e w' ⟨rfl, rfl⟩))
    go_loopw [10, 13] (fun rv iv wr => ∃ (i lr cr : Nat) (Ar : Option Addr) (T : Dsk), i0 ≤ i ∧ i ≤ i1 ∧ iv = .int .i64 i ∧ rv = .slice Ar lr cr ∧ lr ≤ cr ∧ wr.cell? ⟨w.heap.size, 0, none⟩ = some (.int .i64 f) ∧ Hid (HasF F w1 Ar lr ((d.drop (gone off m i)).map bv) ∧ lr = m - gone off m i ∧ wrc f (cki off m i) T (d.drop (gone off m i)) = R ∧ PD wr (fun b => F b ∨ newF w1 wr b) a n T ∧ Frm F w1 wr)) (fun _ iv _ => i1 - (RowKit.intOf iv).toNat)
    case atStart =>
      refine ⟨i0, m, cap, A, S, Nat.le_refl _, by rw [HI0.out, HI1.out]; exact sp_le off m, rfl, rfl, HLC.out, z0, ?_⟩
      show _ ∧ _
      rw [HI0.out, gone_start, sp_start]
      exact ⟨HA1.out, rfl, HR.out, H1.out.wide (Frm.refl F w1), Frm.refl F w1⟩
    case round =>
      obtain ⟨i, lr, cr, Ar, T, hi0, hi1, rfl, rfl, hlcr, z3, HI⟩ := hrel
      have hib : (i : Int) ≤ 4096 := by omega
      by_cases hlt : i < i1
      · have hd : decide ((i : Int) < (i1 : Int)) = true := by simpa using hlt
        obtain ⟨hm1, ho1, ho2, hic⟩ := sp_bounds HC.out.2.2 (by rw [← HI0.out]; exact hi0) (by rw [← HI1.out]; exact hlt)
        have hfi : f + i < n := by have := HC.out.2.1; omega
        have hst := Lib.hid (cki_step ho1 hm1 ho2)
        have hgo := Lib.hid (gone_step ho1 hm1 ho2)
        obtain ⟨hp1, hp2⟩ := pfrom_le ho1 hm1 ho2
        have hprt := fun W => part_any i off m W (by have := HC.out; have := hn4.out; omega) (by have := HC.out; have := hn4.out; omega) (by omega)
        have hlr := HI.out.2.1
        obtain ⟨u, hu⟩ : ∃ u, u = pfrom off i := ⟨_, rfl⟩
        obtain ⟨t, ht⟩ : ∃ t, t = pto off m i := ⟨_, rfl⟩
        rw [← hu, ← ht] at hprt hst hp1 hgo
        rw [← ht] at hp2
        clear hu ht
        obtain ⟨k, hk⟩ : ∃ k, k = t - u := ⟨_, rfl⟩
        rw [← hk] at hst hgo
        have hklr : k ≤ lr := by have := hgo.out.2; omega
        have hk0 : 0 < k := by omega
        have huk : u + k ≤ 64 := by omega
        have hkt : (t : Int) - (u : Int) = (k : Int) := by omega
        have hkw : wrap64 ((t : Int) - (u : Int)) = (k : Int) := by unfold wrap64; omega
        have hki : IntKind.i64.wrap ((t : Int) - (u : Int)) = (k : Int) := by rw [hkt, IntKind.wrap_i64]; omega
        have hkj : IntKind.i64.wrap (k : Int) = (k : Int) := by rw [IntKind.wrap_i64]; omega
        have hfw : IntKind.i64.wrap ((f : Int) + (i : Int)) = (f : Int) + (i : Int) := by rw [IntKind.wrap_i64]; omega
        have hkc : (k : Int) ≤ (cr : Int) := by omega
        have hkn : (0 : Int) ≤ (k : Int) := by omega
        have hklen : (k : Int) ≤ (lr : Int) := by omega
        obtain ⟨b, o, rfl, hbw, hbF, _⟩ := HI.out.1.2 (by omega)
        have hc0 : ¬ cr = 0 := by omega
        have hpd := HI.out.2.2.2.1.below ((Below.refl wr.heap.size wr).drew)
        have hfr := HI.out.2.2.2.2
        have hfd := hfr.trans' (Frm.of_below (F := F) ((Below.refl wr.heap.size wr).drew))
        have hA1 := (HI.out.1.pre hklr).keep hfd (G := fun b => F b ∨ newF w1 wr b) fun b hb => hb.elim .inl fun h => .inr h.1
        have hrep := repl_any hpd (f + i) u hfi _ k cr ((d.drop (gone off m i)).take k) hA1 hk0 huk
        rw [show (((f + i : Nat) : Int)) = (f : Int) + (i : Int) by omega] at hrep
        obtain ⟨er, her⟩ : ∃ er, er = (T.repl (f + i) u ((d.drop (gone off m i)).take k)).2 := ⟨_, rfl⟩
        obtain ⟨T2, hT2⟩ : ∃ T2, T2 = (T.repl (f + i) u ((d.drop (gone off m i)).take k)).1 := ⟨_, rfl⟩
        rw [← her, ← hT2] at hrep
        have HER := Lib.hid (And.intro her hT2)
        clear her hT2
        have HBO := Lib.hid (And.intro hbw hbF)
        have HK := Lib.hid (And.intro hk (And.intro hp1 (And.intro hlr hklr)))
        have HFD := Lib.hid hfd
        have hzn : Hid (¬ (F w.heap.size ∨ newF w1 wr w.heap.size)) := fun hb => hb.elim hzF.out fun hb => by have := cell_lt HZ0.out; have := hb.1; omega
        clear hA1 hpd hfd hfr hbw hbF hk hp1 hlr
        go_wp2_with (go_at_call 65; refine (hprt _).mono ?_; rintro e w' ⟨rfl, rfl⟩)
        go_region_held3 (fun W => W.cell? ⟨w.heap.size, 0, none⟩ = some (.int .i64 f)) (first | exact s1 | go_keep)
          (first
            | (go_at_call 67
               refine hrep.mono ?_
               rintro e w5 ⟨rfl, hp5, hf5⟩
               have s1 := (hf5.cell (p := ⟨w.heap.size, 0, none⟩) (cell_lt (w := wr) z3) hzn.out).trans z3
               have HP := Lib.hid (And.intro hp5 (HFD.out.trans hf5 fun b hb => hb.elim .inl fun h => .inr h.1))
               clear hp5 hf5))
        by_cases he : er = 0
        · have hez : (er == 0) = true := by simpa using he
          subst he
          by_cases hck : cr = k
          · subst hck
            go_wp2
            go_roundw
            case rel =>
              refine ⟨i + 1, 0, 0, some ⟨b, o, none⟩, T2, by omega, by omega, by go_num, rfl, by omega, s1, ?_⟩
              show _ ∧ _
              rw [hgo.out.1, ← List.drop_drop]
              exact ⟨by rw [List.drop_of_length_le (l := d.drop (gone off m i)) (by have := HI.out.1.1; simp at this; simp; omega)]; exact hasF_nil, by have := HK.out.2.2.1; omega, by rw [← HI.out.2.2.1, hst.out, wrc_ok (by rw [← HER.out.1]), HER.out.2], pwide2 HP.out.1 HFD.out.size, HP.out.2⟩
            case measure => simp [RowKit.intOf]; omega
          · have hck' : ¬ cr = k := hck
            go_wp2
            go_roundw
            case rel =>
              refine ⟨i + 1, lr - k, cr - k, some ⟨b, o + k, none⟩, T2, by omega, by omega, by go_num, rfl, by omega, s1, ?_⟩
              show _ ∧ _
              rw [hgo.out.1, ← List.drop_drop]
              exact ⟨HI.out.1.suf HK.out.2.2.2, by have := HK.out.2.2.1; omega, by rw [← HI.out.2.2.1, hst.out, wrc_ok (by rw [← HER.out.1]), HER.out.2], pwide2 HP.out.1 HFD.out.size, HP.out.2⟩
            case measure => simp [RowKit.intOf]; omega
        · have hez : (er == 0) = false := by simpa using he
          have hRe : R = (T2, er) := by rw [← HI.out.2.2.1, hst.out, wrc_err (by rw [← HER.out.1]; exact he), HER.out.1, HER.out.2]
          have HRe := Lib.hid hRe
          clear hRe he
          go_wp2
          go_ret
          have hRe := HRe.out
          subst hRe
          exact ⟨rfl, pwide3 HP.out.1 HFD.out.size HB1.out.size, (Frm.of_below HB1.out).trans' HP.out.2⟩
      · have hd : decide ((i : Int) < (i1 : Int)) = false := by simpa using hlt
        have hRe : R = (T, 0) := by rw [← HI.out.2.2.1, sp_end HC.out.2.2 (by rw [← HI0.out]; exact hi0) (by rw [← HI1.out]; exact hlt)]; rfl
        have HRe := Lib.hid hRe
        clear hRe
        go_wp2
        go_ret
        have hRe := HRe.out
        subst hRe
        exact ⟨rfl, pwide HI.out.2.2.2.1 HB1.out.size, (Frm.of_below HB1.out).trans' HI.out.2.2.2.2⟩
  · rw [xwrite_err (by rw [hdl]; exact hx), hdl]
    obtain ⟨er, her⟩ : ∃ er, er = xerr n f c off len := ⟨_, rfl⟩
    rw [← her] at hv hx ⊢
    have hne : (er == 0) = false := by simpa using hx
    clear hx her hdl
    go_enter Try.func30, Try.ntmps30
    go_wp2_with (go_at_call 63; refine hv.mono ?_; rintro e w1 ⟨rfl, hb1⟩)
    go_ret
    have hb := HB0.out.trans (hb1.mono HB0.out.size)
    exact ⟨rfl, (H0.out.below hb1).wide (Frm.of_below hb), Frm.of_below hb⟩

end Go.Proofs.Ytbknpfngboioeaa
