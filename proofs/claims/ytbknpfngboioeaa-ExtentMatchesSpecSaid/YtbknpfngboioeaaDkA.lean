/-
  The contract of Sync.
-/
import Derived.Test.YtbknpfngboioeaaDk9
namespace Go.Proofs.Ytbknpfngboioeaa
open Go.RowKit

set_option maxHeartbeats 800000 in
theorem sync_err {w : World} {F : Nat → Prop} {a n : Nat} {S : Dsk} (h : PD w F a n S) (he : S.err true ≠ 0) :
    Calls Try.prog 17 #[.pointer (some ⟨a, 0, none⟩)] w fun e w' => e = .returned (.int .i64 (S.err true)) ∧ PD w' F a n (S.begun true) ∧ Frm F w w' := by
  have hb := begin_err h _ he
  have he' : (S.err true == 0) = false := by simpa using he
  clear he
  generalize S.err true = er at *
  go_enter Try.func17, Try.ntmps17
  go_wp2_with (go_at_call 51; refine hb.mono ?_; rintro e w1 ⟨rfl, hpd, hf⟩)
  go_ret
  exact ⟨rfl, hpd, hf⟩
set_option maxHeartbeats 800000 in
theorem sync_pow {w : World} {F : Nat → Prop} {a n : Nat} {S : Dsk} (h : PD w F a n S) (he : S.err true = 0) (hp : S.pow true = true) :
    Calls Try.prog 17 #[.pointer (some ⟨a, 0, none⟩)] w fun e w' => e = .returned (.int .i64 10) ∧ PD w' F a n (S.begun true).cut ∧ Frm F w w' := by
  have hb := begin_fine h true he
  rw [hp] at hb
  clear he hp
  go_enter Try.func17, Try.ntmps17
  go_wp2_with (first
    | (go_at_call 51; refine hb.mono ?_; rintro e w1 ⟨rfl, hpd, hf⟩)
    | (go_at_call 21; refine (cut_any hpd).mono ?_; rintro e w2 ⟨rfl, hpd2, hf2⟩))
  go_ret
  exact ⟨rfl, hpd2, hf.trans' hf2⟩

/-- What a Sync finds of an entry. -/
def Ent (S : Dsk) (D : DataW Value) (i g : Nat) : Prop := (∃ xs, S.ca i = some xs) ∧ ∀ zd, D.atKey (.int .i64 (i : Int)) zd = .held (.slice (some ⟨g, 0, none⟩) 64 64)
theorem ent_of {w : World} {F : Nat → Prop} {a n : Nat} {S : Dsk} {sb mb m c : Nat} {A : Option Addr} {D : DataW Value} (h : PDx w F a n S sb mb A m c D) (x : Int) (v : Value) (hat : ∀ zd, D.atKey (.int .i64 x) zd = .held v) :
    ∃ i g : Nat, x = i ∧ v = .slice (some ⟨g, 0, none⟩) 64 64 ∧ Ent S D i g := by
  obtain ⟨i, rfl, hi⟩ := (h.has x).1 (Maps.has_true_of_atKey hat)
  cases hc : S.ca i with
  | none => rw [hc] at hi; cases hi
  | some xs =>
    obtain ⟨g, h1, _⟩ := h.val i xs hc
    have := (hat .nil).symm.trans (h1 .nil)
    injection this with this
    exact ⟨i, g, rfl, this, ⟨xs, hc⟩, h1⟩
theorem ent_row {w : World} {F : Nat → Prop} {a n : Nat} {S S' : Dsk} {sb mb m c : Nat} {A : Option Addr} {D : DataW Value} (h : PDx w F a n S' sb mb A m c D) (hca : S'.ca = S.ca) {i g : Nat} (hT : Ent S D i g) :
    ∃ xs, S.ca i = some xs ∧ i < n ∧ xs.length = 64 ∧ w.heap[g]? = some (.cells (xs.map bv).toArray 5 (0, 0)) := by
  obtain ⟨⟨xs, hc⟩, hat⟩ := hT
  obtain ⟨g', h1, _, _, h4⟩ := h.val i xs (by rw [hca]; exact hc)
  have := (hat .nil).symm.trans (h1 .nil)
  injection this with this
  injection this with this
  injection this with this
  injection this with this
  subst this
  obtain ⟨h5, h6⟩ := h.ok.ca i xs (by rw [hca]; exact hc)
  exact ⟨xs, hc, h5, h6, h4⟩
theorem grown_of_frm {w w' : World} {b : Nat} (h : Frm (fun k => k = b) w w') : w.grownBy w' (some b) := ⟨h.os, h.tape, h.output, h.size, fun i hi hn => h.block i hi fun e => hn (by rw [e])⟩
theorem sb_ne {w : World} {F : Nat → Prop} {a n : Nat} {S : Dsk} {sb mb m c : Nat} {A : Option Addr} {D : DataW Value} (h : PDx w F a n S sb mb A m c D) : mb ≠ sb := by
  rintro rfl
  obtain ⟨es, cl, e, _⟩ := h.map
  rw [h.row] at e
  cases e
theorem mix_start {w : World} {F : Nat → Prop} {a n : Nat} {S : Dsk} {sb mb m c : Nat} {A : Option Addr} {D : DataW Value} (h : PDx w F a n S sb mb A m c D) (i : Nat) : S.st i = mixSt S (Maps.has D) i := by
  unfold mixSt
  split
  · rfl
  · rename_i hn
    have : S.ca i = none := by
      cases hc : S.ca i with
      | none => rfl
      | some xs => exact absurd ((h.has i).2 ⟨i, rfl, by rw [hc]; rfl⟩) hn
    simp [Dsk.sec, this]
/-- One entry stored. -/
theorem sync_step {v1 v2 : World} {F : Nat → Prop} {a n : Nat} {S : Dsk} {sb mb m c : Nat} {A : Option Addr} {D : DataW Value} {left : Lit → Bool} {i : Nat} {xs : List UInt8} (h : PDx v1 F a n (S.withSt (mixSt S left)) sb mb A m c D) (hi : S.ca i = some xs)
    (hf : Frm (fun b => b = sb) v1 v2) (hrow : v2.heap[sb]? = some (.cells (splice ((flat n (mixSt S left)).map bv) (64 * i) (xs.map bv)).toArray 5 (0, 0))) :
    PDx v2 F a n (S.withSt (mixSt S (fun z => left z && !z.sameKey (.int .i64 (i : Int))))) sb mb A m c D := by
  obtain ⟨hin, hx⟩ := h.ok.ca i xs hi
  have hst : ∀ k, k < n → (mixSt S left k).length = 64 := h.ok.st
  have hsp : splice ((flat n (mixSt S left)).map bv) (64 * i) (xs.map bv) = (flat n (upd (mixSt S left) i xs)).map bv := by
    have h1 := flat_splice hst hin (xs := xs) (by omega)
    rw [onto_whole (by rw [hst i hin]; omega)] at h1
    rw [← h1]
    simp [splice, List.map_take, List.map_drop]
  rw [hsp] at hrow
  have h2 := h.setSt hf (upd (mixSt S left) i xs) (fun k hk => by
    by_cases hki : k = i
    · subst hki; rw [upd_same]; exact hx
    · rw [upd_other _ _ hki]; exact hst k hk) hrow
  exact h2.congr _ fun k _ => mix_step S left i xs hi k
theorem mix_end (S : Dsk) (left : Lit → Bool) (hl : ∀ kl, left kl = false) (i : Nat) : mixSt S left i = S.sec i := by simp [mixSt, hl]

set_option maxRecDepth 20000 in
set_option maxHeartbeats 1600000 in
theorem sync_yes {w : World} {F : Nat → Prop} {a n : Nat} {S : Dsk} (h : PD w F a n S) (he : S.err true = 0) (hp : S.pow true = false) :
    Calls Try.prog 17 #[.pointer (some ⟨a, 0, none⟩)] w fun e w' => e = .returned (.int .i64 0) ∧ PD w' F a n (S.begun true).flush ∧ Frm F w w' := by
  have hb := begin_fine h true he
  rw [hp] at hb
  clear he hp
  generalize S.begun true = S1 at hb ⊢
  go_enter Try.func17, Try.ntmps17
  go_wp2_with (first
    | (go_at_call 51; refine hb.mono ?_; rintro e w1 ⟨rfl, hpd, hf⟩; obtain ⟨sb, mb, A, m, c, D, hx⟩ := hpd; have c1 := hx.c1; have hmap := hx.map; have HX := Lib.hid hx; have HF := Lib.hid hf; clear hx hf)
    | (at_range; refine wpList_range_own _ rfl _ 83 (by exact rfl) 3 32 kdInt tyMap heldR mb 4096 D (by exact rfl) hmap ?_; intro w0 hrg0 hg0 hs0))
  go_frame
  have hr : Hid (∀ b, b = w1.heap.size → F b → False) := fun b e hb => by subst e; have := HX.out.lt _ hb; omega
  obtain ⟨r, er⟩ : ∃ r, r = w1.heap.size := ⟨_, rfl⟩
  have hrs : Hid (w1.heap.size ≤ r) := Nat.le_of_eq er.symm
  rw [← er] at hr hrg0 hs0 ⊢
  clear er
  go_loopw [5] (fun _ wr => ∃ left cnt, Hid (wr.ranges Try.prog 3 heldR mb r 4096 D left cnt ∧ PDx wr F a n (S1.withSt (mixSt S1 left)) sb mb A m c D ∧ Frm F w1 wr)) (fun _ wr => wr.rangeLeft mb r)
  case atStart =>
    have hf0 : Frm (fun _ => False) w1 w0 := Frm.of_grown hg0 fun b e => by cases e
    exact ⟨Maps.has D, Maps.size D, hrg0, (HX.out.keep hf0 fun _ h => h.elim).congr _ fun i _ => mix_start HX.out i, hf0.more fun _ h => h.elim⟩
  case round =>
    obtain ⟨left, cnt, HR⟩ := hrel
    go_wp2_with (at_next; refine wpList_next_disk rfl _ (by exact rfl) mb r 4096 D left cnt (by exact rfl) HR.out.1 (Ent S1 D) (ent_of HX.out) ?_ ?_)
    · intro hl0
      have c1' := HR.out.2.1.c1
      have hmap' := HR.out.2.1.map
      go_wp2_with (refine wpList_clear_map rfl _ 83 (by exact rfl) 3 32 tyMap heldR mb 4096 D (by exact rfl) hmap' ?_; intro w3 hown3 ht3)
      go_ret
      have h1 := HR.out.2.1.congr (fun i => S1.sec i) fun i _ => mix_end S1 left hl0 i
      obtain ⟨h2, hf3⟩ := h1.cleared hown3 ht3
      exact ⟨rfl, ⟨_, _, _, _, _, _, h2⟩, (HF.out.trans' HR.out.2.2).trans hf3 fun b e => .inl (e ▸ HX.out.fm)⟩
    · intro i g v1 cnt1 hT hlk hrg1 hlt hg1 hs1 hen
      have hfr : Frm (fun b => b = r) wr v1 := Frm.of_grown hg1 fun b e => (Option.some.inj e).symm
      have hx1 := HR.out.2.1.keep hfr hr.out
      obtain ⟨xs, hca, hin, hxl, hrow⟩ := ent_row hx1 rfl hT
      have HF1 : Hid (Frm F w1 v1) := HR.out.2.2.trans hfr fun b e => .inr (by subst e; exact hrs.out)
      have hrowS : Hid (v1.heap[sb]? = some (.cells ((flat n (mixSt S1 left)).map bv).toArray 5 (0, 0))) := hx1.row
      have hsrc : Hid (∀ h0 : 0 < (xs.map bv).length, ∃ ad, some (⟨g, 0, none⟩ : Addr) = some ad ∧ ∀ j v, (xs.map bv)[j]? = some v → v1.cell? (ad.add j) = some v) := fun h0 => has_src (has_of_row hrow hxl) h0
      have hfit : Hid (64 * i + (xs.map bv).length ≤ ((flat n (mixSt S1 left)).map bv).length) := by
        show _ ≤ _
        have := flat_length hx1.ok.st
        rw [List.length_map, List.length_map, hxl]
        have e : (flat n (mixSt S1 left)).length = 64 * n := this
        omega
      have h64 : Hid ((xs.map bv).length = Nat.min 64 64) := by show _ = _; rw [List.length_map, hxl]; rfl
      have HX1 := Lib.hid hx1
      have HT := Lib.hid (And.intro hca (And.intro hin hlt))
      have HN := Lib.hid hrg1
      have hst := stored_any hx1 i hin
      clear hx1 hca hin hxl hrow hrg1 hlk hlt hg1 hs1 hT hfr
      go_wp2_with (first
        | (go_at_call 54; refine hst.mono ?_; rintro e w' ⟨rfl, rfl⟩)
        | (refine wpList_copy_frm rfl _ _ _ _ (by exact rfl) 5 tyBs szU8 _ _ _ _ _ sb (64 * i) (by exact rfl) (by exact rfl) ((flat n (mixSt S1 left)).map bv) 5 hrowS.out (xs.map bv) h64.out hsrc.out hfit.out (one_bytes xs) ?_; intro v2 hrow2 hf2; go_frame))
      go_roundw
      case rel => exact ⟨_, cnt1, HN.out.kept (grown_of_frm hf2) (fun e => sb_ne HX1.out (Option.some.inj e)) (fun e => hr.out sb (Option.some.inj e).symm HX.out.fs), sync_step HX1.out HT.out.1 hf2 hrow2.out, HF1.out.trans hf2 fun b e => .inl (e ▸ HX.out.fs)⟩
      case measure => rw [(HN.out.kept (grown_of_frm hf2) (fun e => sb_ne HX1.out (Option.some.inj e)) (fun e => hr.out sb (Option.some.inj e).symm HX.out.fs)).left_eq, HR.out.1.left_eq]; exact HT.out.2.2

end Go.Proofs.Ytbknpfngboioeaa
