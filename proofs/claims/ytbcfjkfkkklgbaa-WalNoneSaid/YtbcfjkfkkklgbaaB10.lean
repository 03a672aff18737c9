/-
The contract of Sync.
min and max of two numbers. No program.
The contract of Restart.
Contracts of invalid, IndexFunc, ContainsFunc, Clone, Arm.
Contracts of Clone (of faults) and Arm.
-/
import Derived.Test.YtbcfjkfkkklgbaaB09
import Derived.Test.YtbcfjkfkkklgbaaB00
import Derived.BigQuiet
import Derived.Laws.AppendOwn
namespace Go.Proofs.Ytbcfjkfkkklgbaa
section
open Go.RowKit

set_option maxHeartbeats 800000 in
theorem sync_err {w : World} {F : Nat → Prop} {a n : Nat} {S : Dsk} (h : PD w F a n S) (he : S.err true ≠ 0) :
    Calls Try.prog 27 #[.pointer (some ⟨a, 0, none⟩)] w fun e w' => e = .returned (.int .i64 (S.err true)) ∧ PD w' F a n (S.begun true) ∧ Frm F w w' := by
  have hb := begin_err h _ he
  have he' : (S.err true == 0) = false := by simpa using he
  clear he
  generalize S.err true = er at *
  go_enter Try.func27, Try.ntmps27
  go_wp2_with (go_at_call 69; refine hb.mono ?_; rintro e w1 ⟨rfl, hpd, hf⟩)
  go_ret
  exact ⟨rfl, hpd, hf⟩
set_option maxHeartbeats 800000 in
theorem sync_pow {w : World} {F : Nat → Prop} {a n : Nat} {S : Dsk} (h : PD w F a n S) (he : S.err true = 0) (hp : S.pow true = true) :
    Calls Try.prog 27 #[.pointer (some ⟨a, 0, none⟩)] w fun e w' => e = .returned (.int .i64 10) ∧ PD w' F a n (S.begun true).cut ∧ Frm F w w' := by
  have hb := begin_fine h true he
  rw [hp] at hb
  clear he hp
  go_enter Try.func27, Try.ntmps27
  go_wp2_with (first
    | (go_at_call 69; refine hb.mono ?_; rintro e w1 ⟨rfl, hpd, hf⟩)
    | (go_at_call 31; refine (cut_any hpd).mono ?_; rintro e w2 ⟨rfl, hpd2, hf2⟩))
  go_ret
  exact ⟨rfl, hpd2, hf.trans' hf2⟩

/-- What a Sync finds of an entry. -/
def Ent (S : Dsk) (D : DataW Value) (i g : Nat) : Prop := (∃ xs, S.ca i = some xs) ∧ ∀ zd, D.atKey (.int .i64 (i : Int)) zd = .held (.slice (some ⟨g, 0, none⟩) 64 64)
theorem ent_of {w : World} {F : Nat → Prop} {a n : Nat} {S : Dsk} {sb mb m c : Nat} {A : Option Addr} {D : DataW Value} (h : PDx w F a n S sb mb A m c D) (x : Int) (v : Value) (hat : ∀ zd, D.atKey (.int .i64 x) zd = .held v) :
    ∃ i g : Nat, x = i ∧ v = .slice (some ⟨g, 0, none⟩) 64 64 ∧ Ent S D i g := by
  obtain ⟨i, rfl, hi⟩ := (h.has x).1 (Maps.has_true_of_atKey hat)
  cases hc : S.ca i with
  | none => rw [hc] at hi; cases hi
  | some xs =>
    obtain ⟨g, h1, _⟩ := h.val i xs hc
    have := (hat .nil).symm.trans (h1 .nil)
    injection this with this
    exact ⟨i, g, rfl, this, ⟨xs, hc⟩, h1⟩
theorem ent_row {w : World} {F : Nat → Prop} {a n : Nat} {S S' : Dsk} {sb mb m c : Nat} {A : Option Addr} {D : DataW Value} (h : PDx w F a n S' sb mb A m c D) (hca : S'.ca = S.ca) {i g : Nat} (hT : Ent S D i g) :
    ∃ xs, S.ca i = some xs ∧ i < n ∧ xs.length = 64 ∧ w.heap[g]? = some (.cells (xs.map bv).toArray 5 (0, 0)) := by
  obtain ⟨⟨xs, hc⟩, hat⟩ := hT
  obtain ⟨g', h1, _, _, h4⟩ := h.val i xs (by rw [hca]; exact hc)
  have := (hat .nil).symm.trans (h1 .nil)
  injection this with this
  injection this with this
  injection this with this
  injection this with this
  subst this
  obtain ⟨h5, h6⟩ := h.ok.ca i xs (by rw [hca]; exact hc)
  exact ⟨xs, hc, h5, h6, h4⟩
theorem grown_of_frm {w w' : World} {b : Nat} (h : Frm (fun k => k = b) w w') : w.grownBy w' (some b) := ⟨h.os, h.tape, h.output, h.size, fun i hi hn => h.block i hi fun e => hn (by rw [e])⟩
theorem sb_ne {w : World} {F : Nat → Prop} {a n : Nat} {S : Dsk} {sb mb m c : Nat} {A : Option Addr} {D : DataW Value} (h : PDx w F a n S sb mb A m c D) : mb ≠ sb := by
  rintro rfl
  obtain ⟨es, cl, e, _⟩ := h.map
  rw [h.row] at e
  cases e
theorem mix_start {w : World} {F : Nat → Prop} {a n : Nat} {S : Dsk} {sb mb m c : Nat} {A : Option Addr} {D : DataW Value} (h : PDx w F a n S sb mb A m c D) (i : Nat) : S.st i = mixSt S (Maps.has D) i := by
  unfold mixSt
  split
  · rfl
  · rename_i hn
    have : S.ca i = none := by
      cases hc : S.ca i with
      | none => rfl
      | some xs => exact absurd ((h.has i).2 ⟨i, rfl, by rw [hc]; rfl⟩) hn
    simp [Dsk.sec, this]
/-- One entry stored. -/
theorem sync_step {v1 v2 : World} {F : Nat → Prop} {a n : Nat} {S : Dsk} {sb mb m c : Nat} {A : Option Addr} {D : DataW Value} {left : Lit → Bool} {i : Nat} {xs : List UInt8} (h : PDx v1 F a n (S.withSt (mixSt S left)) sb mb A m c D) (hi : S.ca i = some xs)
    (hf : Frm (fun b => b = sb) v1 v2) (hrow : v2.heap[sb]? = some (.cells (splice ((flat n (mixSt S left)).map bv) (64 * i) (xs.map bv)).toArray 5 (0, 0))) :
    PDx v2 F a n (S.withSt (mixSt S (fun z => left z && !z.sameKey (.int .i64 (i : Int))))) sb mb A m c D := by
  obtain ⟨hin, hx⟩ := h.ok.ca i xs hi
  have hst : ∀ k, k < n → (mixSt S left k).length = 64 := h.ok.st
  have hsp : splice ((flat n (mixSt S left)).map bv) (64 * i) (xs.map bv) = (flat n (upd (mixSt S left) i xs)).map bv := by
    have h1 := flat_splice hst hin (xs := xs) (by omega)
    rw [onto_whole (by rw [hst i hin]; omega)] at h1
    rw [← h1]
    simp [splice, List.map_take, List.map_drop]
  rw [hsp] at hrow
  have h2 := h.setSt hf (upd (mixSt S left) i xs) (fun k hk => by
    by_cases hki : k = i
    · subst hki; rw [upd_same]; exact hx
    · rw [upd_other _ _ hki]; exact hst k hk) hrow
  exact h2.congr _ fun k _ => mix_step S left i xs hi k
theorem mix_end (S : Dsk) (left : Lit → Bool) (hl : ∀ kl, left kl = false) (i : Nat) : mixSt S left i = S.sec i := by simp [mixSt, hl]

set_option maxRecDepth 20000 in
set_option maxHeartbeats 1600000 in
theorem sync_yes {w : World} {F : Nat → Prop} {a n : Nat} {S : Dsk} (h : PD w F a n S) (he : S.err true = 0) (hp : S.pow true = false) :
    Calls Try.prog 27 #[.pointer (some ⟨a, 0, none⟩)] w fun e w' => e = .returned (.int .i64 0) ∧ PD w' F a n (S.begun true).flush ∧ Frm F w w' := by
  have hb := begin_fine h true he
  rw [hp] at hb
  clear he hp
  generalize S.begun true = S1 at hb ⊢
  go_enter Try.func27, Try.ntmps27
  go_wp2_with (first
    | (go_at_call 69; refine hb.mono ?_; rintro e w1 ⟨rfl, hpd, hf⟩; obtain ⟨sb, mb, A, m, c, D, hx⟩ := hpd; have c1 := hx.c1; have hmap := hx.map; have HX := Lib.hid hx; have HF := Lib.hid hf; clear hx hf)
    | (at_range; refine wpList_range_own _ rfl _ 96 (by exact rfl) 3 34 kdInt tyMap heldR mb 4096 D (by exact rfl) hmap ?_; intro w0 hrg0 hg0 hs0))
  go_frame
  have hr : Hid (∀ b, b = w1.heap.size → F b → False) := fun b e hb => by subst e; have := HX.out.lt _ hb; omega
  obtain ⟨r, er⟩ : ∃ r, r = w1.heap.size := ⟨_, rfl⟩
  have hrs : Hid (w1.heap.size ≤ r) := Nat.le_of_eq er.symm
  rw [← er] at hr hrg0 hs0 ⊢
  clear er
  go_loopw [5] (fun _ wr => ∃ left cnt, Hid (wr.ranges Try.prog 3 heldR mb r 4096 D left cnt ∧ PDx wr F a n (S1.withSt (mixSt S1 left)) sb mb A m c D ∧ Frm F w1 wr)) (fun _ wr => wr.rangeLeft mb r)
  case atStart =>
    have hf0 : Frm (fun _ => False) w1 w0 := Frm.of_grown hg0 fun b e => by cases e
    exact ⟨Maps.has D, Maps.size D, hrg0, (HX.out.keep hf0 fun _ h => h.elim).congr _ fun i _ => mix_start HX.out i, hf0.more fun _ h => h.elim⟩
  case round =>
    obtain ⟨left, cnt, HR⟩ := hrel
    go_wp2_with (at_next; refine wpList_next_disk rfl _ (by exact rfl) mb r 4096 D left cnt (by exact rfl) HR.out.1 (Ent S1 D) (ent_of HX.out) ?_ ?_)
    · intro hl0
      have c1' := HR.out.2.1.c1
      have hmap' := HR.out.2.1.map
      go_wp2_with (refine wpList_clear_map rfl _ 96 (by exact rfl) 3 34 tyMap heldR mb 4096 D (by exact rfl) hmap' ?_; intro w3 hown3 ht3)
      go_ret
      have h1 := HR.out.2.1.congr (fun i => S1.sec i) fun i _ => mix_end S1 left hl0 i
      obtain ⟨h2, hf3⟩ := h1.cleared hown3 ht3
      exact ⟨rfl, ⟨_, _, _, _, _, _, h2⟩, (HF.out.trans' HR.out.2.2).trans hf3 fun b e => .inl (e ▸ HX.out.fm)⟩
    · intro i g v1 cnt1 hT hlk hrg1 hlt hg1 hs1 hen
      have hfr : Frm (fun b => b = r) wr v1 := Frm.of_grown hg1 fun b e => (Option.some.inj e).symm
      have hx1 := HR.out.2.1.keep hfr hr.out
      obtain ⟨xs, hca, hin, hxl, hrow⟩ := ent_row hx1 rfl hT
      have HF1 : Hid (Frm F w1 v1) := HR.out.2.2.trans hfr fun b e => .inr (by subst e; exact hrs.out)
      have hrowS : Hid (v1.heap[sb]? = some (.cells ((flat n (mixSt S1 left)).map bv).toArray 5 (0, 0))) := hx1.row
      have hsrc : Hid (∀ h0 : 0 < (xs.map bv).length, ∃ ad, some (⟨g, 0, none⟩ : Addr) = some ad ∧ ∀ j v, (xs.map bv)[j]? = some v → v1.cell? (ad.add j) = some v) := fun h0 => has_src (has_of_row hrow hxl) h0
      have hfit : Hid (64 * i + (xs.map bv).length ≤ ((flat n (mixSt S1 left)).map bv).length) := by
        show _ ≤ _
        have := flat_length hx1.ok.st
        rw [List.length_map, List.length_map, hxl]
        have e : (flat n (mixSt S1 left)).length = 64 * n := this
        omega
      have h64 : Hid ((xs.map bv).length = Nat.min 64 64) := by show _ = _; rw [List.length_map, hxl]; rfl
      have HX1 := Lib.hid hx1
      have HT := Lib.hid (And.intro hca (And.intro hin hlt))
      have HN := Lib.hid hrg1
      have hst := stored_any hx1 i hin
      clear hx1 hca hin hxl hrow hrg1 hlk hlt hg1 hs1 hT hfr
      go_wp2_with (first
        | (go_at_call 72; refine hst.mono ?_; rintro e w' ⟨rfl, rfl⟩)
        | (refine wpList_copy_frm rfl _ _ _ _ (by exact rfl) 5 tyBs szU8 _ _ _ _ _ sb (64 * i) (by exact rfl) (by exact rfl) ((flat n (mixSt S1 left)).map bv) 5 hrowS.out (xs.map bv) h64.out hsrc.out hfit.out (one_bytes xs) ?_; intro v2 hrow2 hf2; go_frame))
      go_roundw
      case rel => exact ⟨_, cnt1, HN.out.kept (grown_of_frm hf2) (fun e => sb_ne HX1.out (Option.some.inj e)) (fun e => hr.out sb (Option.some.inj e).symm HX.out.fs), sync_step HX1.out HT.out.1 hf2 hrow2.out, HF1.out.trans hf2 fun b e => .inl (e ▸ HX.out.fs)⟩
      case measure => rw [(HN.out.kept (grown_of_frm hf2) (fun e => sb_ne HX1.out (Option.some.inj e)) (fun e => hr.out sb (Option.some.inj e).symm HX.out.fs)).left_eq, HR.out.1.left_eq]; exact HT.out.2.2
end

section
theorem min_two {P : Program} (w : World) (ts : Array TypeId) (t : TypeId) (a b r : Int) (hr : min a b = r) :
    (Builtin.min_ ts t #[.int .i64 a, .int .i64 b]).run P w = .ok (.int .i64 r) w := by
  have e1 : (if b < a then b else a) = min a b := by omega
  simp [Builtin.min_, Builtin.min2, List.foldlM, e1]
  omega
theorem max_two {P : Program} (w : World) (ts : Array TypeId) (t : TypeId) (a b r : Int) (hr : max a b = r) :
    (Builtin.max_ ts t #[.int .i64 a, .int .i64 b]).run P w = .ok (.int .i64 r) w := by
  have e1 : (if a < b then b else a) = max a b := by omega
  simp [Builtin.max_, Builtin.max2, List.foldlM, e1]
  omega
end

section
open Go.RowKit

/-- A slice of pairs of numbers that came in, none in a block of F. -/
def PairsF (F : Nat → Prop) (w : World) (A : Option Addr) (m : Nat) (ps : List (Int × Int)) : Prop :=
  ps.length = m ∧ (∀ p ∈ ps, -9223372036854775808 ≤ p.1 ∧ p.1 ≤ 9223372036854775807) ∧
  (0 < m → ∃ b off, A = some ⟨b, off, none⟩ ∧ b < w.heap.size ∧ ¬ F b ∧ ∀ j (h : j < ps.length), w.cell? ⟨b, off + j * 2, none⟩ = some (.int .i64 ps[j].1) ∧ w.cell? ⟨b, off + j * 2 + 1, none⟩ = some (.int .i64 ps[j].2))
theorem PairsF.keep {F G : Nat → Prop} {w w1 : World} {A : Option Addr} {m : Nat} {ps : List (Int × Int)} (h : PairsF F w A m ps) (hf : Frm F w w1) (hG : ∀ b, G b → F b ∨ w.heap.size ≤ b) : PairsF G w1 A m ps :=
  ⟨h.1, h.2.1, fun h0 => by
    obtain ⟨b, off, e, hb, hn, hc⟩ := h.2.2 h0
    exact ⟨b, off, e, by have := hf.size; omega, fun hg => (hG b hg).elim hn (fun h1 => by omega), fun j hj => ⟨(hf.cell (p := ⟨b, off + j * 2, none⟩) hb hn).trans (hc j hj).1, (hf.cell (p := ⟨b, off + j * 2 + 1, none⟩) hb hn).trans (hc j hj).2⟩⟩⟩

set_option maxHeartbeats 400000 in
theorem restart_nil (A : Option Addr) (m c : Nat) (w : World) : Calls Try.prog 33 #[.pointer none, .slice A m c] w fun e w' => e = .returned (.tuple #[]) ∧ w = w' := by
  go_enter Try.func33, Try.ntmps33
  go_wp2
  refine bodyPost_ret (results_none rfl _ _ _) rfl ?_
  exact ⟨rfl, rfl⟩

theorem keeps_step (ca : Nat → Option (List UInt8)) (st : Nat → List UInt8) (ks : List (Int × Int)) (k : Nat) (hk : k < ks.length) : (ks.take (k + 1)).foldl (keep1 ca) st = keep1 ca ((ks.take k).foldl (keep1 ca) st) ks[k] := by
  rw [List.take_succ_eq_append_getElem hk, List.foldl_append]
  rfl

theorem look_ent {w : World} {F : Nat → Prop} {a n : Nat} {S S' : Dsk} {sb mb m c : Nat} {A : Option Addr} {D : DataW Value} (h : PDx w F a n S' sb mb A m c D) (hca : S'.ca = S.ca) {i g : Nat} (hT : Ent S D i g) :
    (Instr.lookup 96 (.map (some mb)) (.int .i64 i) true).run Try.prog w = .ok (.tuple #[.slice (some ⟨g, 0, none⟩) 64 64, .bool true]) w := by
  obtain ⟨xs, hc, hin, _⟩ := ent_row h hca hT
  have h4 := h.ok.n4
  obtain ⟨v, ps, hr, hv⟩ := h.map.look_ok kdInt tyMap (zeroBs w) (zd := .held (.slice none 0 0)) (zp := []) rfl (keyInt (x := (i : Int)) (by omega) (by omega))
  rw [hT.2, (h.has i).2 ⟨i, rfl, by rw [hca, hc]; rfl⟩] at *
  simp only [heldR, Option.some.injEq, Prod.mk.injEq, DataW.held.injEq] at hv
  rw [hv.1] at hr
  exact hr
theorem drewN_bel (B : Nat) (w : World) (q : Nat) : Below B w (w.drewN q) := ⟨rfl, rfl, rfl, Nat.le_refl _, fun _ _ => rfl⟩
theorem PDx.drewN {w : World} {F : Nat → Prop} {a n : Nat} {S : Dsk} {sb mb m c : Nat} {A : Option Addr} {D : DataW Value} (h : PDx w F a n S sb mb A m c D) (q : Nat) : PDx (w.drewN q) F a n S sb mb A m c D := h.keep (G := fun _ => False) (Frm.of_below (drewN_bel _ w q)) fun _ h => h.elim
theorem ent_has {w : World} {F : Nat → Prop} {a n : Nat} {S : Dsk} {sb mb m c : Nat} {A : Option Addr} {D : DataW Value} (h : PDx w F a n S sb mb A m c D) {i : Nat} {xs : List UInt8} (hi : S.ca i = some xs) : ∃ g, Ent S D i g := by
  obtain ⟨g, h1, _⟩ := h.val i xs hi
  exact ⟨g, ⟨xs, hi⟩, h1⟩
/-- One element of keep. -/
theorem keep_step {v1 v2 : World} {F : Nat → Prop} {a n : Nat} {S : Dsk} {st : Nat → List UInt8} {sb mb m c : Nat} {A : Option Addr} {D : DataW Value} {i : Nat} {xs : List UInt8} {y : Int} (h : PDx v1 F a n (S.withSt st) sb mb A m c D) (hi : S.ca i = some xs)
    (hf : Frm (fun b => b = sb) v1 v2) (hrow : v2.heap[sb]? = some (.cells (splice ((flat n st).map bv) (64 * i) ((xs.take (kb y)).map bv)).toArray 5 (0, 0))) :
    PDx v2 F a n (S.withSt (keep1 S.ca st ((i : Int), y))) sb mb A m c D := by
  obtain ⟨hin, hx⟩ := h.ok.ca i xs hi
  have hst : ∀ k, k < n → (st k).length = 64 := h.ok.st
  have hkb := kb_le y
  have hsp : splice ((flat n st).map bv) (64 * i) ((xs.take (kb y)).map bv) = (flat n (upd st i (onto (xs.take (kb y)) (st i)))).map bv := by
    have h1 := flat_splice hst hin (xs := xs.take (kb y)) (by simp; omega)
    rw [← h1]
    simp [splice, List.map_take, List.map_drop]
  rw [hsp] at hrow
  have hk1 : keep1 S.ca st ((i : Int), y) = upd st i (onto (xs.take (kb y)) (st i)) := by
    unfold keep1
    rw [if_neg (by omega)]
    simp only [Int.toNat_natCast]
    rw [hi]
  rw [hk1]
  refine h.setSt hf _ (fun k hk => ?_) hrow
  by_cases hki : k = i
  · subst hki; rw [upd_same, onto_length (by rw [hst k hk]; simp; omega), hst k hk]
  · rw [upd_other _ _ hki]; exact hst k hk
theorem keep_miss (ca : Nat → Option (List UInt8)) (st : Nat → List UInt8) (x y : Int) (h : ¬ ∃ (i : Nat) (xs : List UInt8), x = i ∧ ca i = some xs) : keep1 ca st (x, y) = st := by
  unfold keep1
  by_cases hx : x < 0
  · rw [if_pos hx]
  · rw [if_neg hx]
    cases hc : ca x.toNat with
    | none => simp only [hc]
    | some xs => exact absurd ⟨x.toNat, xs, by omega, hc⟩ h

set_option maxRecDepth 20000 in
set_option maxHeartbeats 1600000 in
theorem restart_any {w : World} {F : Nat → Prop} {a n : Nat} {S : Dsk} (h : PD w F a n S) (A : Option Addr) (m c : Nat) (ks : List (Int × Int)) (hK : PairsF F w A m ks) (hm : m ≤ 1000000) :
    Calls Try.prog 33 #[.pointer (some ⟨a, 0, none⟩), .slice A m c] w fun e w' => e = .returned (.tuple #[]) ∧ PD w' F a n (S.restarted ks) ∧ Frm F w w' := by
  obtain ⟨sb, mb, A', m', c', D, h⟩ := h
  have HX := Lib.hid h
  have HK := Lib.hid hK
  have HM := Lib.hid hm
  clear h hK hm
  go_enter Try.func33, Try.ntmps33
  go_wp2
  go_loopw [13] (fun i wr => ∃ k : Nat, k ≤ m ∧ i = .int .i64 k ∧ Hid (PDx wr F a n (S.withSt ((ks.take k).foldl (keep1 S.ca) S.st)) sb mb A' m' c' D ∧ Frm F w wr)) (fun i _ => m - (RowKit.intOf i).toNat)
  case atStart => exact ⟨0, Nat.zero_le _, rfl, HX.out, Frm.refl _ _⟩
  case round =>
    obtain ⟨k, hk, rfl, HR⟩ := hrel
    by_cases hlt : k < m
    · obtain ⟨b, off, rfl, hbw, hFb, hc⟩ := HK.out.2.2 (by omega)
      have hkf : k < ks.length := by rw [HK.out.1]; exact hlt
      obtain ⟨h1, h2⟩ := hc k hkf
      have d1 := (HR.out.2.cell (p := ⟨b, off + k * 2, none⟩) hbw hFb).trans h1
      have d2 := (HR.out.2.cell (p := ⟨b, off + k * 2 + 1, none⟩) hbw hFb).trans h2
      have hbd := HK.out.2.1 _ (List.getElem_mem hkf)
      have hstep := Lib.hid (keeps_step S.ca S.st ks k hkf)
      generalize ks[k] = p at d1 d2 hstep hbd
      obtain ⟨x, y⟩ := p
      have HBD := Lib.hid hbd
      clear hc h1 h2 hkf hbd
      have c1 := HR.out.1.c1
      have lta := HR.out.1.lt a HR.out.1.fa
      generalize (ks.take k).foldl (keep1 S.ca) S.st = st at HR hstep
      go_wp2
      have hb0 : Below wr.heap.size wr (wr.alloc (.cells #[.int .i64 x, .int .i64 y] 89)) := (Below.refl _ _).alloc (Nat.le_refl _) _
      have hx0 := HR.out.1.keep (G := fun _ => False) (Frm.of_below hb0) fun _ h => h.elim
      have k0 : (wr.alloc (.cells #[.int .i64 x, .int .i64 y] 89)).cell? ⟨wr.heap.size, 0, none⟩ = some (.int .i64 x) := cell_of_row _ _ 0 _ _ _ (heap_alloc_last _ _)
      have k1 : (wr.alloc (.cells #[.int .i64 x, .int .i64 y] 89)).cell? ⟨wr.heap.size, 1, none⟩ = some (.int .i64 y) := cell_of_row _ _ 1 _ _ _ (heap_alloc_last _ _)
      have hf0 := HR.out.2.trans (Frm.of_below (F := F) hb0) fun _ h => .inl h
      have hz : Hid (∀ b, F b → b ≠ wr.heap.size) := fun b hb e => by have := HR.out.1.lt b hb; omega
      have hzl : wr.heap.size < (wr.alloc (.cells #[.int .i64 x, .int .i64 y] 89)).heap.size := by simp
      have HR' := Lib.hid HR
      clear d1 d2 c1 HR hb0 lta
      generalize wr.alloc (.cells #[.int .i64 x, .int .i64 y] 89) = v0 at *
      generalize wr.heap.size = z at *
      have c1 := hx0.c1
      have hkb : (k : Int) ≤ 1000000 := by have := HM.out; omega
      by_cases hin : ∃ (i : Nat) (xs : List UInt8), x = i ∧ S.ca i = some xs
      · obtain ⟨i, xs, rfl, hca⟩ := hin
        obtain ⟨g, hE⟩ := ent_has (S := S.withSt st) hx0 hca
        have hE : Ent S D i g := hE
        have hl := fun q => look_ent (hx0.drewN q) rfl hE
        obtain ⟨M, hM⟩ : ∃ M, max y 0 = M := ⟨_, rfl⟩
        have hmax := fun (W : World) (ts : Array TypeId) (t : TypeId) => max_two (P := Try.prog) W ts t y 0 M hM
        obtain ⟨s, hs⟩ : ∃ s, s = kb y := ⟨_, rfl⟩
        have hmin := fun (W : World) (ts : Array TypeId) (t : TypeId) => min_two (P := Try.prog) W ts t M 64 (s : Int) (by rw [hs, ← hM]; unfold kb; omega)
        have hs64 : s ≤ 64 := by rw [hs]; exact kb_le y
        have hs64i : (s : Int) ≤ 64 := by omega
        have HS := Lib.hid hs
        have HX0 := Lib.hid hx0
        have HCA := Lib.hid hca
        clear hx0 hs hM hca
        go_quiet (fail)
        have HX1 := Lib.hid (HX0.out.drewN nq)
        have hf1 := hf0.trans (Frm.of_below (F := F) (drewN_bel v0.heap.size v0 nq)) fun _ h => .inl h
        have m0 : (v0.drewN nq).cell? ⟨z, 0, none⟩ = some (.int .i64 i) := k0
        have m1 : (v0.drewN nq).cell? ⟨z, 1, none⟩ = some (.int .i64 y) := k1
        clear c1 k0 k1 hl
        generalize v0.drewN nq = v1 at *
        go_wp2
        have hinn := (HX1.out.ok.ca i xs HCA.out).1
        have hst := stored_any (w := { v1 with drawn := v1.drawn + 1 }) (HX1.out.keep (G := fun _ => False) (Frm.of_below ((Below.refl _ v1).drew)) fun _ h => h.elim) i hinn
        have HI := Lib.hid hinn
        clear hinn
        go_still_tail 7, (by kernel_rfl)
        repeat still_step
        still_call (hst.mono fun e w' h => ⟨h.1, h.2.symm⟩)
        repeat still_step
        try refine wpStill_nil ?_
        change wpList _ _ _ _ _ (World.drew _)
        have hx2 := HX1.out.keep (G := fun _ => False) (Frm.of_below ((Below.refl v1.heap.size v1).drew)) fun _ h => h.elim
        have HF2 := Lib.hid (hf1.trans (Frm.of_below (F := F) ((Below.refl v1.heap.size v1).drew)) fun _ h => .inl h)
        clear hst m0 m1 hf1 HX1
        generalize World.drew v1 = v2 at *
        obtain ⟨xs', hca', hin', hxl, hrow⟩ := ent_row hx2 rfl hE
        have exs : xs' = xs := by have := hca'.symm.trans HCA.out; exact Option.some.inj this
        subst exs
        have hlen : Hid (((xs'.take s).map bv).length = s) := by show _ = _; simp; omega
        have hsrc : Hid (∀ h0 : 0 < ((xs'.take s).map bv).length, ∃ ad, some (⟨g, 0, none⟩ : Addr) = some ad ∧ ∀ j v, ((xs'.take s).map bv)[j]? = some v → v2.cell? (ad.add j) = some v) := fun h0 => has_src (by have := (has_of_row hrow hxl).take s hs64; rwa [← List.map_take] at this) h0
        have hfit : Hid (64 * i + ((xs'.take s).map bv).length ≤ ((flat n st).map bv).length) := by
          show _ ≤ _
          have e : (flat n st).length = 64 * n := flat_length hx2.ok.st
          rw [hlen.out, List.length_map, e]
          omega
        have h64 : Hid (((xs'.take s).map bv).length = Nat.min s 64) := by show _ = _; rw [hlen.out]; exact (Nat.min_eq_left hs64).symm
        have hrowS : Hid (v2.heap[sb]? = some (.cells ((flat n st).map bv).toArray 5 (0, 0))) := hx2.row
        have HX2 := Lib.hid hx2
        clear hx2 hrow hca'
        go_wp2_with (refine wpList_copy_frm rfl _ _ _ _ (by exact rfl) 5 tyBs szU8 _ _ _ _ _ sb (64 * i) (by exact rfl) (by exact rfl) ((flat n st).map bv) 5 hrowS.out ((xs'.take s).map bv) h64.out hsrc.out hfit.out (one_bytes _) ?_; intro v3 hrow3 hf3; go_frame)
        go_roundw
        case rel => exact ⟨k + 1, by omega, by go_num, by rw [hstep.out]; exact keep_step HX2.out HCA.out hf3 (by rw [← HS.out]; exact hrow3.out), HF2.out.trans hf3 fun b e => .inl (e ▸ HX.out.fs)⟩
        case measure => simp [RowKit.intOf]; omega
      · have hkm := keep_miss S.ca st x y hin
        have hl := fun q => look_miss (hx0.drewN q) (x := x) HBD.out.1 HBD.out.2 (fun i e => by
          cases hc : S.ca i with
          | none => exact hc
          | some xs => exact absurd ⟨i, xs, e, hc⟩ hin)
        have HX0 := Lib.hid hx0
        have HKM := Lib.hid hkm
        clear hx0 hkm hin
        go_quiet (fail)
        have HX1 := Lib.hid (HX0.out.drewN nq)
        have hf1 := Lib.hid (hf0.trans (Frm.of_below (F := F) (drewN_bel v0.heap.size v0 nq)) fun _ h => .inl h)
        clear c1 k0 k1 hl
        generalize v0.drewN nq = v1 at *
        go_wp2
        go_roundw
        case rel => exact ⟨k + 1, by omega, by go_num, by rw [hstep.out, HKM.out]; exact HX1.out, hf1.out⟩
        case measure => simp [RowKit.intOf]; omega
    · have hkm : k = m := by omega
      subst hkm
      have hall : Hid (ks.take k = ks) := by show _ = _; rw [← HK.out.1, List.take_length]
      have c1 := HR.out.1.c1
      have hmap' := HR.out.1.map
      go_wp2_with (first
        | (refine wpList_clear_map rfl _ 96 (by exact rfl) 3 34 tyMap heldR mb 4096 D (by exact rfl) hmap' ?_; intro w3 hown3 ht3; have hcl := HR.out.1.cleared hown3 ht3)
        | (go_at_call 77; refine (arm_in ⟨_, _, _, _, _, _, hcl.1⟩ none 0 0 [] ⟨rfl, fun h => absurd h (by omega)⟩ (by omega)).mono ?_; rintro e w4 ⟨rfl, hpd4, hf4⟩; obtain ⟨sb4, mb4, A4, m4, c4', D4, hx4⟩ := hpd4; have c4 := hx4.c4; have f4 := hx4.fr 4; have HX4 := Lib.hid hx4; clear hx4))
      go_end0
      have hx4 := HX4.out
      have hf : Frm (fun b => b = a) w4 (w4.setCell ⟨a, 4, none⟩ (.bool false)) := (Frm.refl (fun b => b = a) w4).setCell (p := ⟨a, 4, none⟩) (.inl rfl) _
      refine ⟨rfl, ⟨_, _, _, _, _, _, hx4.fields hf (HX.out.ok.restarted ks) ?_ rfl rfl ?_⟩, ?_⟩
      · show ks.foldl (keep1 S.ca) S.st = (ks.take k).foldl (keep1 S.ca) S.st
        rw [hall.out]
      · have := set_field (j := 4) (v := .bool false) hx4.cells
        simpa [Dsk.restarted, Dsk.armed] using this
      · exact (((HR.out.2.trans hcl.2 fun b e => .inl (e ▸ HX.out.fm)).trans' hf4).trans hf fun b e => .inl (e ▸ HX.out.fa))
end

section
open Go.RowKit

def badF (p : Int × Int) : Bool := decide (p.1 < 0) || (decide (p.2 ≠ 1) && decide (p.2 ≠ 2))
def badFs (ps : List (Int × Int)) : Bool := ps.any badF
set_option maxHeartbeats 400000 in
theorem invalid_any (x y : Int) (w : World) : Calls Try.prog 76 #[.agg #[.int .i64 x, .int .i64 y]] w fun e w' => e = .returned (.bool (badF (x, y))) ∧ Below w.heap.size w w' := by
  have hb : Below w.heap.size w (w.alloc (.cells #[.int .i64 x, .int .i64 y] 91)) := (Below.refl _ _).alloc (Nat.le_refl _) _
  by_cases h1 : x < 0
  · have hr : Hid (badF (x, y) = true) := by show _ = _; simp [badF, h1]
    have h1' : decide (x < 0) = true := by simpa using h1
    clear h1
    go_enter Try.func76, Try.ntmps76
    go_wp2
    go_ret
    exact ⟨ret_bool (by rw [hr.out]), hb⟩
  · have h1' : decide (x < 0) = false := by simpa using h1
    by_cases h2 : y = 1
    · have hr : Hid (badF (x, y) = false) := by show _ = _; simp [badF, h1', h2]
      have h2' : (y != 1) = false := by simp [h2]
      clear h1 h2
      go_enter Try.func76, Try.ntmps76
      go_wp2
      go_ret
      exact ⟨ret_bool (by rw [hr.out]), hb⟩
    · have h2' : (y != 1) = true := by simpa using h2
      have hr : Hid (badF (x, y) = !(y == 2)) := by
        show _ = _
        by_cases h3 : y = 2 <;> simp [badF, h1', h2, h3]
      clear h1 h2
      go_enter Try.func76, Try.ntmps76
      go_wp2
      go_ret
      exact ⟨ret_bool (by rw [hr.out]; rfl), hb⟩

set_option maxRecDepth 20000 in
set_option maxHeartbeats 1600000 in
theorem indexFunc_any {F : Nat → Prop} (A : Option Addr) (m c : Nat) (ps : List (Int × Int)) (w : World) (hP : PairsF F w A m ps) (hm : m ≤ 1000000) :
    Calls Try.prog 96 #[.slice A m c, .func (.func 76) #[] #[]] w fun e w' => ∃ r : Int, e = .returned (.int .i64 r) ∧ decide (0 ≤ r) = badFs ps ∧ Below w.heap.size w w' := by
  have HP := Lib.hid hP
  have HM := Lib.hid hm
  clear hP hm
  go_enter Try.func96, Try.ntmps96
  go_wp2
  go_loopw [8] (fun i wr => ∃ k : Nat, k ≤ m ∧ i = .int .i64 k ∧ Hid (Below w.heap.size w wr ∧ badFs ps = badFs (ps.drop k))) (fun i _ => m - (RowKit.intOf i).toNat)
  case atStart => exact ⟨0, Nat.zero_le _, rfl, Below.refl _ _, by simp⟩
  case round =>
    obtain ⟨k, hk, rfl, HR⟩ := hrel
    have hkb : (k : Int) ≤ 1000000 := by have := HM.out; omega
    by_cases hlt : k < m
    · obtain ⟨b, off, rfl, hbw, _, hc⟩ := HP.out.2.2 (by omega)
      have hkf : k < ps.length := by rw [HP.out.1]; exact hlt
      obtain ⟨h1, h2⟩ := hc k hkf
      have d1 := (HR.out.1.cell (p := ⟨b, off + k * 2, none⟩) hbw).trans h1
      have d2 := (HR.out.1.cell (p := ⟨b, off + k * 2 + 1, none⟩) hbw).trans h2
      have hstep : Hid (badFs ps = (badF ps[k] || badFs (ps.drop (k + 1)))) := by
        show _ = _
        rw [HR.out.2, List.drop_eq_getElem_cons hkf]
        rfl
      generalize ps[k] = p at d1 d2 hstep
      obtain ⟨x, y⟩ := p
      clear hc h1 h2 hkf
      cases hb : badF (x, y) with
      | true =>
        have HB := Lib.hid hb
        clear hb
        go_wp2_with (go_at_call 76; refine (invalid_any x y wr).mono ?_; rintro e w1 ⟨rfl, hb1⟩; rw [HB.out])
        go_ret
        refine ⟨k, rfl, ?_, HR.out.1.trans (hb1.mono HR.out.1.size)⟩
        rw [hstep.out, HB.out]
        simp
      | false =>
        have HB := Lib.hid hb
        clear hb
        go_wp2_with (go_at_call 76; refine (invalid_any x y wr).mono ?_; rintro e w1 ⟨rfl, hb1⟩; rw [HB.out])
        go_roundw
        case rel => exact ⟨k + 1, by omega, by go_num, HR.out.1.trans (hb1.mono HR.out.1.size), by rw [hstep.out, HB.out]; rfl⟩
        case measure => simp [RowKit.intOf]; omega
    · have hkm : k = m := by omega
      have hz : Hid (badFs ps = false) := by
        show _ = _
        rw [HR.out.2, List.drop_of_length_le (by rw [HP.out.1]; omega)]
        rfl
      go_wp2
      go_ret
      exact ⟨-1, rfl, by rw [hz.out]; decide, HR.out.1⟩
set_option maxHeartbeats 400000 in
theorem containsFunc_any {F : Nat → Prop} (A : Option Addr) (m c : Nat) (ps : List (Int × Int)) (w : World) (hP : PairsF F w A m ps) (hm : m ≤ 1000000) :
    Calls Try.prog 75 #[.slice A m c, .func (.func 76) #[] #[]] w fun e w' => e = .returned (.bool (badFs ps)) ∧ Below w.heap.size w w' := by
  have hc := indexFunc_any A m c ps w hP hm
  clear hP hm
  go_enter Try.func75, Try.ntmps75
  go_wp2_with (go_at_call 96; refine hc.mono ?_; rintro e w1 ⟨r, rfl, hr, hb1⟩; have HR := Lib.hid hr; clear hr)
  go_ret
  exact ⟨ret_bool (by rw [← HR.out]), hb1⟩
end

section
open Go.RowKit

theorem tyFaults : Try.prog.underlying 45 = some (.slice 91) := by kernel_rfl
theorem infoFault : (Try.prog.info? 91).map (fun i => (i.zero, i.size, i.bytes)) = some (some (.agg #[.int .i64 0, .int .i64 0]), 2, 16) := by kernel_rfl
/-- The cells of pairs. -/
def pairCells : List (Int × Int) → List Value
  | [] => []
  | p :: r => .int .i64 p.1 :: .int .i64 p.2 :: pairCells r
theorem pairCells_length (ps : List (Int × Int)) : (pairCells ps).length = ps.length * 2 := by
  induction ps with
  | nil => rfl
  | cons p r ih => simp [pairCells, ih]; omega
theorem pairCells_get (ps : List (Int × Int)) : ∀ j (h : j < ps.length), (pairCells ps)[j * 2]? = some (.int .i64 ps[j].1) ∧ (pairCells ps)[j * 2 + 1]? = some (.int .i64 ps[j].2) := by
  induction ps with
  | nil => intro j h; simp at h
  | cons p r ih =>
    intro j h
    cases j with
    | zero => simp [pairCells]
    | succ j =>
      have h' : j < r.length := by simpa using h
      obtain ⟨h1, h2⟩ := ih j h'
      rw [show (j + 1) * 2 = j * 2 + 1 + 1 by omega]
      simpa [pairCells] using And.intro h1 h2
theorem pairCells_one (ps : List (Int × Int)) : ∀ u ∈ pairCells ps, u.oneCell' = true := by
  induction ps with
  | nil => intro u h; simp [pairCells] at h
  | cons p r ih =>
    intro u h
    simp [pairCells] at h
    rcases h with rfl | rfl | h
    · rfl
    · rfl
    · exact ih u h
theorem pairs_cells {F : Nat → Prop} {w : World} {A : Option Addr} {m : Nat} {ps : List (Int × Int)} (h : PairsF F w A m ps) (ad : Addr) (hA : A = some ad) : ∀ j u, (pairCells ps)[j]? = some u → w.cell? (ad.add j) = some u := by
  intro j u hj
  have hjl := (List.getElem?_eq_some_iff.1 hj).1
  rw [pairCells_length, h.1] at hjl
  obtain ⟨b, off, e, _, _, hc⟩ := h.2.2 (by omega)
  rw [hA] at e
  injection e with e
  subst e
  have hadd : (⟨b, off, none⟩ : Addr).add j = ⟨b, off + j, none⟩ := by unfold Addr.add; split <;> simp_all
  have hk : j / 2 < ps.length := by rw [h.1]; omega
  obtain ⟨g1, g2⟩ := pairCells_get ps _ hk
  obtain ⟨c1, c2⟩ := hc _ hk
  rw [hadd]
  rcases Nat.mod_two_eq_zero_or_one j with h0 | h0
  · have e1 : j = j / 2 * 2 := by omega
    rw [e1] at hj ⊢
    rw [g1] at hj
    rw [show off + j / 2 * 2 = off + (j / 2) * 2 from rfl, c1, hj]
  · have e1 : j = j / 2 * 2 + 1 := by omega
    rw [e1] at hj ⊢
    rw [g2] at hj
    rw [← Nat.add_assoc, c2, hj]
theorem pairs_none {F : Nat → Prop} {w : World} {m : Nat} {ps : List (Int × Int)} (h : PairsF F w none m ps) : m = 0 ∧ ps = [] := by
  by_cases h0 : 0 < m
  · obtain ⟨b, off, e, _⟩ := h.2.2 h0
    cases e
  · exact ⟨by omega, List.eq_nil_of_length_eq_zero (by rw [h.1]; omega)⟩
theorem flt_of_own {w w' : World} {e : Value} {m : Nat} {ps : List (Int × Int)} (h : w'.ownsRow w.heap.size 91 2 e m (pairCells ps)) (hm : ps.length = m) :
    ∃ A c, e = .slice A m c ∧ FltAt w' (newF w w') A m ps := by
  rcases h.2 with ⟨rfl, h0⟩ | ⟨g, cap, cur, rfl, hb, hg, hnc, _, hsz, htake⟩
  · subst h0
    exact ⟨none, 0, rfl, hm, fun h => absurd h (by omega)⟩
  · refine ⟨_, _, rfl, hm, fun _ => ⟨g, cur, rfl, ⟨hb, lt_of_some hg⟩, hg, fun j hj => ?_⟩⟩
    obtain ⟨g1, g2⟩ := pairCells_get ps j hj
    rw [← htake] at g1 g2
    rw [List.getElem?_take_of_lt (by omega)] at g1
    rw [List.getElem?_take_of_lt (by omega)] at g2
    simpa using And.intro g1 g2

set_option maxRecDepth 20000 in
set_option maxHeartbeats 1600000 in
theorem clone_any {F : Nat → Prop} (A : Option Addr) (m c : Nat) (ps : List (Int × Int)) (w : World) (hP : PairsF F w A m ps) (hm : m ≤ 1000000) (hA : A = none → c = 0) :
    Calls Try.prog 78 #[.slice A m c] w fun e w' => ∃ A' c', e = .returned (.slice A' m c') ∧ FltAt w' (newF w w') A' m ps ∧ Below w.heap.size w w' := by
  match A, hP, hA with
  | none, hP, hA =>
    obtain ⟨rfl, rfl⟩ := pairs_none hP
    obtain rfl := hA rfl
    clear hP hA
    have q0 : ∀ W : World, (binOp .eql 45 (.slice none 0 0) (.slice none 0 0)).run Try.prog W = .ok (.bool true) W := fun W => Lib.run_eql_slice_nil W _ _ none 0 0 0 0 tyFaults
    go_enter Try.func78, Try.ntmps78
    go_wp2
    go_ret
    exact ⟨none, ⟨0, rfl⟩, ⟨rfl, fun h => absurd h (by omega)⟩, Below.refl _ _⟩
  | some ad, hP, _ =>
    obtain ⟨i5, hi5, hz0, hz1, hz2⟩ := info_parts infoFault
    have hown : (w.alloc (.cells #[] 91)).ownsRow w.heap.size 91 2 (.slice (some ⟨w.heap.size, 0, none⟩) 0 0) 0 [] :=
      ⟨rfl, .inr ⟨w.heap.size, 0, #[], rfl, Nat.le_refl _, by show (w.heap.push _)[w.heap.size]? = _; simp, Nat.le_refl _, Nat.zero_le _, rfl, rfl⟩⟩
    have hb := (Below.refl w.heap.size w).alloc (Nat.le_refl _) (.cells #[] 91)
    have hP' := hP.keep (Frm.of_below hb) fun b h => .inl h
    have HP := Lib.hid hP'
    have HM := Lib.hid hm
    have HC := Lib.hid (pairs_cells hP' ad rfl)
    have HL : Hid ((pairCells ps).length = m * 2) := by show _ = _; rw [pairCells_length, hP.1]
    have hb1 : Hid (0 + m ≤ maxLen) := by show _ ≤ _; unfold maxLen; omega
    have hb2 : Hid ((0 + m) * 16 ≤ 140737488355328) := by show _ ≤ _; omega
    clear hP hP' hm
    have q0 : ∀ W : World, (binOp .eql 45 (.slice (some ad) m c) (.slice none 0 0)).run Try.prog W = .ok (.bool false) W := fun W => Lib.run_eql_slice_nil W _ _ (some ad) m c 0 0 tyFaults
    go_enter Try.func78, Try.ntmps78
    go_wp2_with (at_builtin; refine wpList_append_own _ rfl _ _ 45 (by exact rfl) w.heap.size 91 i5 _ 2 16 tyFaults hi5 hz0 hz1 hz2 rfl (by decide) _ 0 [] (by exact rfl) hown ad m c (pairCells ps) (by exact rfl) HL.out HC.out (pairCells_one ps) hb1.out hb2.out (by simp) ?_; intro v' w' hown' hgr _)
    go_ret
    rw [Nat.zero_add, List.nil_append] at hown'
    obtain ⟨A', c', rfl, hf⟩ := flt_of_own hown' HP.out.1
    exact ⟨A', c', rfl, hf, hb.grown hgr (by simp) fun k e => Nat.le_of_eq (Option.some.inj e)⟩

set_option maxHeartbeats 400000 in
theorem arm_nil (A : Option Addr) (m c : Nat) (w : World) : Calls Try.prog 29 #[.pointer none, .slice A m c] w fun e w' => e = .returned (.int .i64 1) ∧ w = w' := by
  go_enter Try.func29, Try.ntmps29
  go_wp2
  go_ret
  exact ⟨rfl, rfl⟩
theorem arm_wide {w2 : World} {F : Nat → Prop} {a n : Nat} {S : Dsk} (h : PD w2 F a n S) (w1 : World) : PD w2 (fun k => F k ∨ newF w1 w2 k) a n S := h.more (fun b h => .inl h) fun b hb => hb.elim (h.lt b) fun h => h.2
theorem flt_wide {w1 w2 : World} (F : Nat → Prop) {A : Option Addr} {m : Nat} {fs : List (Int × Int)} (h : FltAt w2 (newF w1 w2) A m fs) : FltAt w2 (fun k => F k ∨ newF w1 w2 k) A m fs :=
  ⟨h.1, fun h0 => by obtain ⟨b, cur, e1, e2, e3⟩ := h.2 h0; exact ⟨b, cur, e1, .inr e2, e3⟩⟩
/-- Whether faults may be armed. -/
def armOk (ps : List (Int × Int)) : Bool := decide (ps.length ≤ 64) && !badFs ps
set_option maxRecDepth 20000 in
set_option maxHeartbeats 1600000 in
theorem arm_any {w : World} {F : Nat → Prop} {a n : Nat} {S : Dsk} (h : PD w F a n S) (A : Option Addr) (m c : Nat) (ps : List (Int × Int)) (hP : PairsF F w A m ps) (hm : m ≤ 1000000) (hA : A = none → c = 0) :
    Calls Try.prog 29 #[.pointer (some ⟨a, 0, none⟩), .slice A m c] w fun e w' => e = .returned (.int .i64 (if armOk ps then 0 else 1)) ∧ PD w' (fun k => F k ∨ newF w w' k) a n (if armOk ps then S.armed ps else S) ∧ Frm F w w' := by
  have hwid : ∀ {S' : Dsk} (w1 : World), Below w.heap.size w w1 → PD w1 F a n S' → PD w1 (fun k => F k ∨ newF w w1 k) a n S' := fun w1 hb hpd => hpd.more (fun b hb => .inl hb) fun b hb => hb.elim (hpd.lt b) fun h => h.2
  by_cases h64 : m ≤ 64
  · have h64i : ¬ ((64 : Int) < (m : Int)) := by omega
    have HW : Hid (∀ {S' : Dsk} (w1 : World), Below w.heap.size w w1 → PD w1 F a n S' → PD w1 (fun k => F k ∨ newF w w1 k) a n S') := hwid
    cases hb : badFs ps with
    | true =>
      have hok : armOk ps = false := by simp [armOk, hb]
      rw [hok]
      have HB := Lib.hid hb
      have H := Lib.hid h
      have HP := Lib.hid hP
      clear hb hok hwid h hP h64
      go_enter Try.func29, Try.ntmps29
      go_wp2_with (go_at_call 75; refine (containsFunc_any A m c ps w HP.out hm).mono ?_; rintro e w1 ⟨rfl, hb1⟩; rw [HB.out])
      go_ret
      exact ⟨by simp, by simpa using HW.out w1 hb1 (H.out.below hb1), Frm.of_below hb1⟩
    | false =>
      have hok : armOk ps = true := by simp [armOk, hb, hP.1, h64]
      rw [hok]
      have HB := Lib.hid hb
      have H := Lib.hid h
      have HP := Lib.hid hP
      have H64 := Lib.hid h64
      have HM := Lib.hid hm
      clear hb hok hwid h hP h64 hm
      go_enter Try.func29, Try.ntmps29
      go_wp2_with (first
        | (go_at_call 75; refine (containsFunc_any A m c ps w HP.out HM.out).mono ?_; rintro e w1 ⟨rfl, hb1⟩; rw [HB.out])
        | (go_at_call 78; refine (clone_any A m c ps w1 (HP.out.keep (Frm.of_below hb1) fun b h => .inl h) HM.out hA).mono ?_; rintro e w2 ⟨A', c', rfl, hfl, hb2⟩; have hpd2 := arm_wide ((H.out.below hb1).below hb2) w1; have hfl2 := flt_wide F hfl)
        | (go_at_call 77; refine (arm_in hpd2 A' m c' ps hfl2 H64.out).mono ?_; rintro e w3 ⟨rfl, hpd, hf⟩))
      go_ret
      have s1 := hb1.size
      have s3 := hf.size
      refine ⟨by simp, ?_, ((Frm.of_below hb1).trans (Frm.of_below (F := F) hb2) fun _ h => .inl h).trans hf fun b hb => hb.elim .inl fun hb => .inr (by have := hb.1; omega)⟩
      refine hpd.more ?_ ?_
      · rintro b (hb | hb)
        · exact .inl hb
        · exact .inr ⟨by have := hb.1; omega, by have := hb.2; omega⟩
      · rintro b (hb | hb)
        · exact hpd.lt b (.inl hb)
        · exact hb.2
  · have h64i : ((64 : Int) < (m : Int)) := by omega
    have hok : armOk ps = false := by simp [armOk, hP.1]; omega
    rw [hok]
    have H := Lib.hid h
    have HW : Hid (∀ {S' : Dsk} (w1 : World), Below w.heap.size w w1 → PD w1 F a n S' → PD w1 (fun k => F k ∨ newF w w1 k) a n S') := hwid
    clear hok h hP h64 hwid hm
    go_enter Try.func29, Try.ntmps29
    go_wp2
    go_ret
    exact ⟨by simp, by simpa using HW.out w (Below.refl _ _) H.out, Frm.refl _ _⟩
end

end Go.Proofs.Ytbcfjkfkkklgbaa
