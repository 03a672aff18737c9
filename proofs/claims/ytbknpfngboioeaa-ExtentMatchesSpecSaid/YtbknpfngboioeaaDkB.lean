/-
  The contract of Restart.
-/
import Derived.Test.YtbknpfngboioeaaDkA
import Derived.Test.YtbknpfngboioeaaMin2
import Derived.BigQuiet
namespace Go.Proofs.Ytbknpfngboioeaa
open Go.RowKit

/-- A slice of pairs of numbers that came in, none in a block of F. -/
def PairsF (F : Nat → Prop) (w : World) (A : Option Addr) (m : Nat) (ps : List (Int × Int)) : Prop :=
  ps.length = m ∧ (∀ p ∈ ps, -9223372036854775808 ≤ p.1 ∧ p.1 ≤ 9223372036854775807) ∧
  (0 < m → ∃ b off, A = some ⟨b, off, none⟩ ∧ b < w.heap.size ∧ ¬ F b ∧ ∀ j (h : j < ps.length), w.cell? ⟨b, off + j * 2, none⟩ = some (.int .i64 ps[j].1) ∧ w.cell? ⟨b, off + j * 2 + 1, none⟩ = some (.int .i64 ps[j].2))
theorem PairsF.keep {F G : Nat → Prop} {w w1 : World} {A : Option Addr} {m : Nat} {ps : List (Int × Int)} (h : PairsF F w A m ps) (hf : Frm F w w1) (hG : ∀ b, G b → F b ∨ w.heap.size ≤ b) : PairsF G w1 A m ps :=
  ⟨h.1, h.2.1, fun h0 => by
    obtain ⟨b, off, e, hb, hn, hc⟩ := h.2.2 h0
    exact ⟨b, off, e, by have := hf.size; omega, fun hg => (hG b hg).elim hn (fun h1 => by omega), fun j hj => ⟨(hf.cell (p := ⟨b, off + j * 2, none⟩) hb hn).trans (hc j hj).1, (hf.cell (p := ⟨b, off + j * 2 + 1, none⟩) hb hn).trans (hc j hj).2⟩⟩⟩

set_option maxHeartbeats 400000 in
theorem restart_nil (A : Option Addr) (m c : Nat) (w : World) : Calls Try.prog 23 #[.pointer none, .slice A m c] w fun e w' => e = .returned (.tuple #[]) ∧ w = w' := by
  go_enter Try.func23, Try.ntmps23
  go_wp2
  refine bodyPost_ret (results_none rfl _ _ _) rfl ?_
  exact ⟨rfl, rfl⟩

theorem keeps_step (ca : Nat → Option (List UInt8)) (st : Nat → List UInt8) (ks : List (Int × Int)) (k : Nat) (hk : k < ks.length) : (ks.take (k + 1)).foldl (keep1 ca) st = keep1 ca ((ks.take k).foldl (keep1 ca) st) ks[k] := by
  rw [List.take_succ_eq_append_getElem hk, List.foldl_append]
  rfl

theorem look_ent {w : World} {F : Nat → Prop} {a n : Nat} {S S' : Dsk} {sb mb m c : Nat} {A : Option Addr} {D : DataW Value} (h : PDx w F a n S' sb mb A m c D) (hca : S'.ca = S.ca) {i g : Nat} (hT : Ent S D i g) :
    (Instr.lookup 83 (.map (some mb)) (.int .i64 i) true).run Try.prog w = .ok (.tuple #[.slice (some ⟨g, 0, none⟩) 64 64, .bool true]) w := by
  obtain ⟨xs, hc, hin, _⟩ := ent_row h hca hT
  have h4 := h.ok.n4
  obtain ⟨v, ps, hr, hv⟩ := h.map.look_ok kdInt tyMap (zeroBs w) (zd := .held (.slice none 0 0)) (zp := []) rfl (keyInt (x := (i : Int)) (by omega) (by omega))
  rw [hT.2, (h.has i).2 ⟨i, rfl, by rw [hca, hc]; rfl⟩] at *
  simp only [heldR, Option.some.injEq, Prod.mk.injEq, DataW.held.injEq] at hv
  rw [hv.1] at hr
  exact hr
theorem below_drewN (B : Nat) (w : World) (q : Nat) : Below B w (w.drewN q) := ⟨rfl, rfl, rfl, Nat.le_refl _, fun _ _ => rfl⟩
theorem PDx.drewN {w : World} {F : Nat → Prop} {a n : Nat} {S : Dsk} {sb mb m c : Nat} {A : Option Addr} {D : DataW Value} (h : PDx w F a n S sb mb A m c D) (q : Nat) : PDx (w.drewN q) F a n S sb mb A m c D := h.keep (G := fun _ => False) (Frm.of_below (below_drewN _ w q)) fun _ h => h.elim
theorem ent_has {w : World} {F : Nat → Prop} {a n : Nat} {S : Dsk} {sb mb m c : Nat} {A : Option Addr} {D : DataW Value} (h : PDx w F a n S sb mb A m c D) {i : Nat} {xs : List UInt8} (hi : S.ca i = some xs) : ∃ g, Ent S D i g := by
  obtain ⟨g, h1, _⟩ := h.val i xs hi
  exact ⟨g, ⟨xs, hi⟩, h1⟩
/-- One element of keep. -/
theorem keep_step {v1 v2 : World} {F : Nat → Prop} {a n : Nat} {S : Dsk} {st : Nat → List UInt8} {sb mb m c : Nat} {A : Option Addr} {D : DataW Value} {i : Nat} {xs : List UInt8} {y : Int} (h : PDx v1 F a n (S.withSt st) sb mb A m c D) (hi : S.ca i = some xs)
    (hf : Frm (fun b => b = sb) v1 v2) (hrow : v2.heap[sb]? = some (.cells (splice ((flat n st).map bv) (64 * i) ((xs.take (kb y)).map bv)).toArray 5 (0, 0))) :
    PDx v2 F a n (S.withSt (keep1 S.ca st ((i : Int), y))) sb mb A m c D := by
  obtain ⟨hin, hx⟩ := h.ok.ca i xs hi
  have hst : ∀ k, k < n → (st k).length = 64 := h.ok.st
  have hkb := kb_le y
  have hsp : splice ((flat n st).map bv) (64 * i) ((xs.take (kb y)).map bv) = (flat n (upd st i (onto (xs.take (kb y)) (st i)))).map bv := by
    have h1 := flat_splice hst hin (xs := xs.take (kb y)) (by simp; omega)
    rw [← h1]
    simp [splice, List.map_take, List.map_drop]
  rw [hsp] at hrow
  have hk1 : keep1 S.ca st ((i : Int), y) = upd st i (onto (xs.take (kb y)) (st i)) := by
    unfold keep1
    rw [if_neg (by omega)]
    simp only [Int.toNat_natCast]
    rw [hi]
  rw [hk1]
  refine h.setSt hf _ (fun k hk => ?_) hrow
  by_cases hki : k = i
  · subst hki; rw [upd_same, onto_length (by rw [hst k hk]; simp; omega), hst k hk]
  · rw [upd_other _ _ hki]; exact hst k hk
theorem keep_miss (ca : Nat → Option (List UInt8)) (st : Nat → List UInt8) (x y : Int) (h : ¬ ∃ (i : Nat) (xs : List UInt8), x = i ∧ ca i = some xs) : keep1 ca st (x, y) = st := by
  unfold keep1
  by_cases hx : x < 0
  · rw [if_pos hx]
  · rw [if_neg hx]
    cases hc : ca x.toNat with
    | none => simp only [hc]
    | some xs => exact absurd ⟨x.toNat, xs, by omega, hc⟩ h

set_option maxRecDepth 20000 in
set_option maxHeartbeats 1600000 in
theorem restart_any {w : World} {F : Nat → Prop} {a n : Nat} {S : Dsk} (h : PD w F a n S) (A : Option Addr) (m c : Nat) (ks : List (Int × Int)) (hK : PairsF F w A m ks) (hm : m ≤ 1000000) :
    Calls Try.prog 23 #[.pointer (some ⟨a, 0, none⟩), .slice A m c] w fun e w' => e = .returned (.tuple #[]) ∧ PD w' F a n (S.restarted ks) ∧ Frm F w w' := by
  obtain ⟨sb, mb, A', m', c', D, h⟩ := h
  have HX := Lib.hid h
  have HK := Lib.hid hK
  have HM := Lib.hid hm
  clear h hK hm
  go_enter Try.func23, Try.ntmps23
  go_wp2
  go_loopw [13] (fun i wr => ∃ k : Nat, k ≤ m ∧ i = .int .i64 k ∧ Hid (PDx wr F a n (S.withSt ((ks.take k).foldl (keep1 S.ca) S.st)) sb mb A' m' c' D ∧ Frm F w wr)) (fun i _ => m - (RowKit.intOf i).toNat)
  case atStart => exact ⟨0, Nat.zero_le _, rfl, HX.out, Frm.refl _ _⟩
  case round =>
    obtain ⟨k, hk, rfl, HR⟩ := hrel
    by_cases hlt : k < m
    · obtain ⟨b, off, rfl, hbw, hFb, hc⟩ := HK.out.2.2 (by omega)
      have hkf : k < ks.length := by rw [HK.out.1]; exact hlt
      obtain ⟨h1, h2⟩ := hc k hkf
      have d1 := (HR.out.2.cell (p := ⟨b, off + k * 2, none⟩) hbw hFb).trans h1
      have d2 := (HR.out.2.cell (p := ⟨b, off + k * 2 + 1, none⟩) hbw hFb).trans h2
      have hbd := HK.out.2.1 _ (List.getElem_mem hkf)
      have hstep := Lib.hid (keeps_step S.ca S.st ks k hkf)
      generalize ks[k] = p at d1 d2 hstep hbd
      obtain ⟨x, y⟩ := p
      have HBD := Lib.hid hbd
      clear hc h1 h2 hkf hbd
      have c1 := HR.out.1.c1
      have lta := HR.out.1.lt a HR.out.1.fa
      generalize (ks.take k).foldl (keep1 S.ca) S.st = st at HR hstep
      go_wp2
      have hb0 : Below wr.heap.size wr (wr.alloc (.cells #[.int .i64 x, .int .i64 y] 76)) := (Below.refl _ _).alloc (Nat.le_refl _) _
      have hx0 := HR.out.1.keep (G := fun _ => False) (Frm.of_below hb0) fun _ h => h.elim
      have k0 : (wr.alloc (.cells #[.int .i64 x, .int .i64 y] 76)).cell? ⟨wr.heap.size, 0, none⟩ = some (.int .i64 x) := cell_of_row _ _ 0 _ _ _ (heap_alloc_last _ _)
      have k1 : (wr.alloc (.cells #[.int .i64 x, .int .i64 y] 76)).cell? ⟨wr.heap.size, 1, none⟩ = some (.int .i64 y) := cell_of_row _ _ 1 _ _ _ (heap_alloc_last _ _)
      have hf0 := HR.out.2.trans (Frm.of_below (F := F) hb0) fun _ h => .inl h
      have hz : Hid (∀ b, F b → b ≠ wr.heap.size) := fun b hb e => by have := HR.out.1.lt b hb; omega
      have hzl : wr.heap.size < (wr.alloc (.cells #[.int .i64 x, .int .i64 y] 76)).heap.size := by simp
      have HR' := Lib.hid HR
      clear d1 d2 c1 HR hb0 lta
      generalize wr.alloc (.cells #[.int .i64 x, .int .i64 y] 76) = v0 at *
      generalize wr.heap.size = z at *
      have c1 := hx0.c1
      have hkb : (k : Int) ≤ 1000000 := by have := HM.out; omega
      by_cases hin : ∃ (i : Nat) (xs : List UInt8), x = i ∧ S.ca i = some xs
      · obtain ⟨i, xs, rfl, hca⟩ := hin
        obtain ⟨g, hE⟩ := ent_has (S := S.withSt st) hx0 hca
        have hE : Ent S D i g := hE
        have hl := fun q => look_ent (hx0.drewN q) rfl hE
        obtain ⟨M, hM⟩ : ∃ M, max y 0 = M := ⟨_, rfl⟩
        have hmax := fun (W : World) (ts : Array TypeId) (t : TypeId) => max_two (P := Try.prog) W ts t y 0 M hM
        obtain ⟨s, hs⟩ : ∃ s, s = kb y := ⟨_, rfl⟩
        have hmin := fun (W : World) (ts : Array TypeId) (t : TypeId) => min_two (P := Try.prog) W ts t M 64 (s : Int) (by rw [hs, ← hM]; unfold kb; omega)
        have hs64 : s ≤ 64 := by rw [hs]; exact kb_le y
        have hs64i : (s : Int) ≤ 64 := by omega
        have HS := Lib.hid hs
        have HX0 := Lib.hid hx0
        have HCA := Lib.hid hca
        clear hx0 hs hM hca
        go_quiet (fail)
        have HX1 := Lib.hid (HX0.out.drewN nq)
        have hf1 := hf0.trans (Frm.of_below (F := F) (below_drewN v0.heap.size v0 nq)) fun _ h => .inl h
        have m0 : (v0.drewN nq).cell? ⟨z, 0, none⟩ = some (.int .i64 i) := k0
        have m1 : (v0.drewN nq).cell? ⟨z, 1, none⟩ = some (.int .i64 y) := k1
        clear c1 k0 k1 hl
        generalize v0.drewN nq = v1 at *
        go_wp2
        have hinn := (HX1.out.ok.ca i xs HCA.out).1
        have hst := stored_any (w := { v1 with drawn := v1.drawn + 1 }) (HX1.out.keep (G := fun _ => False) (Frm.of_below ((Below.refl _ v1).drew)) fun _ h => h.elim) i hinn
        have HI := Lib.hid hinn
        clear hinn
        go_still_tail 7, (by kernel_rfl)
        repeat still_step
        still_call (hst.mono fun e w' h => ⟨h.1, h.2.symm⟩)
        repeat still_step
        try refine wpStill_nil ?_
        change wpList _ _ _ _ _ (World.drew _)
        have hx2 := HX1.out.keep (G := fun _ => False) (Frm.of_below ((Below.refl v1.heap.size v1).drew)) fun _ h => h.elim
        have HF2 := Lib.hid (hf1.trans (Frm.of_below (F := F) ((Below.refl v1.heap.size v1).drew)) fun _ h => .inl h)
        clear hst m0 m1 hf1 HX1
        generalize World.drew v1 = v2 at *
        obtain ⟨xs', hca', hin', hxl, hrow⟩ := ent_row hx2 rfl hE
        have exs : xs' = xs := by have := hca'.symm.trans HCA.out; exact Option.some.inj this
        subst exs
        have hlen : Hid (((xs'.take s).map bv).length = s) := by show _ = _; simp; omega
        have hsrc : Hid (∀ h0 : 0 < ((xs'.take s).map bv).length, ∃ ad, some (⟨g, 0, none⟩ : Addr) = some ad ∧ ∀ j v, ((xs'.take s).map bv)[j]? = some v → v2.cell? (ad.add j) = some v) := fun h0 => has_src (by have := (has_of_row hrow hxl).take s hs64; rwa [← List.map_take] at this) h0
        have hfit : Hid (64 * i + ((xs'.take s).map bv).length ≤ ((flat n st).map bv).length) := by
          show _ ≤ _
          have e : (flat n st).length = 64 * n := flat_length hx2.ok.st
          rw [hlen.out, List.length_map, e]
          omega
        have h64 : Hid (((xs'.take s).map bv).length = Nat.min s 64) := by show _ = _; rw [hlen.out]; exact (Nat.min_eq_left hs64).symm
        have hrowS : Hid (v2.heap[sb]? = some (.cells ((flat n st).map bv).toArray 5 (0, 0))) := hx2.row
        have HX2 := Lib.hid hx2
        clear hx2 hrow hca'
        go_wp2_with (refine wpList_copy_frm rfl _ _ _ _ (by exact rfl) 5 tyBs szU8 _ _ _ _ _ sb (64 * i) (by exact rfl) (by exact rfl) ((flat n st).map bv) 5 hrowS.out ((xs'.take s).map bv) h64.out hsrc.out hfit.out (one_bytes _) ?_; intro v3 hrow3 hf3; go_frame)
        go_roundw
        case rel => exact ⟨k + 1, by omega, by go_num, by rw [hstep.out]; exact keep_step HX2.out HCA.out hf3 (by rw [← HS.out]; exact hrow3.out), HF2.out.trans hf3 fun b e => .inl (e ▸ HX.out.fs)⟩
        case measure => simp [RowKit.intOf]; omega
      · have hkm := keep_miss S.ca st x y hin
        have hl := fun q => look_miss (hx0.drewN q) (x := x) HBD.out.1 HBD.out.2 (fun i e => by
          cases hc : S.ca i with
          | none => exact hc
          | some xs => exact absurd ⟨i, xs, e, hc⟩ hin)
        have HX0 := Lib.hid hx0
        have HKM := Lib.hid hkm
        clear hx0 hkm hin
        go_quiet (fail)
        have HX1 := Lib.hid (HX0.out.drewN nq)
        have hf1 := Lib.hid (hf0.trans (Frm.of_below (F := F) (below_drewN v0.heap.size v0 nq)) fun _ h => .inl h)
        clear c1 k0 k1 hl
        generalize v0.drewN nq = v1 at *
        go_wp2
        go_roundw
        case rel => exact ⟨k + 1, by omega, by go_num, by rw [hstep.out, HKM.out]; exact HX1.out, hf1.out⟩
        case measure => simp [RowKit.intOf]; omega
    · have hkm : k = m := by omega
      subst hkm
      have hall : Hid (ks.take k = ks) := by show _ = _; rw [← HK.out.1, List.take_length]
      have c1 := HR.out.1.c1
      have hmap' := HR.out.1.map
      go_wp2_with (first
        | (refine wpList_clear_map rfl _ 83 (by exact rfl) 3 32 tyMap heldR mb 4096 D (by exact rfl) hmap' ?_; intro w3 hown3 ht3; have hcl := HR.out.1.cleared hown3 ht3)
        | (go_at_call 59; refine (arm_in ⟨_, _, _, _, _, _, hcl.1⟩ none 0 0 [] ⟨rfl, fun h => absurd h (by omega)⟩ (by omega)).mono ?_; rintro e w4 ⟨rfl, hpd4, hf4⟩; obtain ⟨sb4, mb4, A4, m4, c4', D4, hx4⟩ := hpd4; have c4 := hx4.c4; have f4 := hx4.fr 4; have HX4 := Lib.hid hx4; clear hx4))
      go_end0
      have hx4 := HX4.out
      have hf : Frm (fun b => b = a) w4 (w4.setCell ⟨a, 4, none⟩ (.bool false)) := (Frm.refl (fun b => b = a) w4).setCell (p := ⟨a, 4, none⟩) (.inl rfl) _
      refine ⟨rfl, ⟨_, _, _, _, _, _, hx4.fields hf (HX.out.ok.restarted ks) ?_ rfl rfl ?_⟩, ?_⟩
      · show ks.foldl (keep1 S.ca) S.st = (ks.take k).foldl (keep1 S.ca) S.st
        rw [hall.out]
      · have := set_field (j := 4) (v := .bool false) hx4.cells
        simpa [Dsk.restarted, Dsk.armed] using this
      · exact (((HR.out.2.trans hcl.2 fun b e => .inl (e ▸ HX.out.fm)).trans' hf4).trans hf fun b e => .inl (e ▸ HX.out.fa))

end Go.Proofs.Ytbknpfngboioeaa
