/-
  The contract of extent.Read.
-/
import Derived.Test.YtbknpfngboioeaaXt1
import Derived.Test.YtbknpfngboioeaaMkR
import Derived.Test.YtbknpfngboioeaaDrE
namespace Go.Proofs.Ytbknpfngboioeaa
open Go.RowKit

/-- Read of the program's disk in the form of the reference's. -/
theorem pread_any {w : World} {F : Nat → Prop} {a n : Nat} {S : Dsk} (h : PD w F a n S) (i : Nat) (hi : i < n) :
    Calls Try.prog 11 #[.pointer (some ⟨a, 0, none⟩), .int .i64 i] w fun e w' => ∃ v z, e = .returned (.tuple #[v, .int .i64 z]) ∧ z = S.ans true ∧ PD w' F a n (S.done true) ∧ Frm F w w' ∧
      (z = 0 → ∃ g c, v = .slice (some ⟨g, 0, none⟩) 64 c ∧ w.heap.size ≤ g ∧ Own8 w' g c 64 (S.sec i)) := by
  have hin : inR n (i : Int) = true := by simp [inR, hi]
  by_cases hz : S.ans true = 0
  · have he : S.err true = 0 := by
      unfold Dsk.ans at hz
      split at hz
      · exact hz
      · rename_i h; simpa using h
    have hp : S.pow true = false := by
      cases hp : S.pow true with
      | false => rfl
      | true => unfold Dsk.ans at hz; rw [he, hp] at hz; simp at hz
    refine (read_yes h i hi he hp).mono ?_
    rintro e w' ⟨h1, h2, g, rfl, hg, hrow⟩
    have hdn : S.done true = S.begun true := by simp [Dsk.done, he, hp]
    have hl := h.ok.sec hi
    exact ⟨_, 0, rfl, hz.symm, by rw [hdn]; exact h1, h2, fun _ => ⟨g, 64, rfl, hg, _, hrow, by simp [hl], Nat.le_refl _, by simp; rw [← List.map_take, List.take_of_length_le (by omega)]⟩⟩
  · have := read_any h (i : Int)
    rw [hin] at this
    refine this.mono ?_
    rintro e w' ⟨v, rfl, _, h1, h2⟩
    exact ⟨v, _, rfl, rfl, h1, h2, fun h => absurd h hz⟩

/-- What a Read answers: a slice that reads as a list, in new memory. -/
def RdW (w w' : World) (v : Value) (l : List UInt8) : Prop := ∃ A m c, v = .slice A m c ∧ (A = none → c = 0) ∧ m ≤ c ∧ ∀ G : Nat → Prop, (∀ b, G b → b < w.heap.size) → HasF G w' A m (l.map bv)
theorem rdw_none (w w' : World) : RdW w w' (.slice none 0 0) [] := ⟨none, 0, 0, rfl, fun _ => rfl, Nat.le_refl _, fun G _ => ⟨rfl, fun h => absurd h (by omega)⟩⟩
theorem rdw_own {w w' : World} {B n : Nat} {v : Value} {l : List UInt8} (h : w'.ownsRow B 5 1 v n (l.map bv)) (hB : w.heap.size ≤ B) : RdW w w' v l := by
  obtain ⟨A, c, rfl, _, hnc'⟩ := Has.of_own h
  refine ⟨A, n, c, rfl, of_own_none h, hnc', fun G hG => ?_⟩
  rcases h.2 with ⟨e, hn⟩ | ⟨g, cap, cur, e, hb, hg, hnc, _⟩
  · subst hn
    exact ⟨by simpa using h.1, fun h0 => absurd h0 (by omega)⟩
  · obtain ⟨A', c', e', hh, _⟩ := Has.of_own h
    refine ⟨hh.1, fun h0 => ?_⟩
    obtain ⟨b, off, eb, hlt, hc⟩ := hh.2 h0
    injection e with e1 _ _
    injection e' with e2 _ _
    rw [← e2, e1] at eb
    injection eb with eb
    injection eb with eb1 eb2
    subst eb1
    exact ⟨g, off, by rw [e1]; congr 2, hlt, fun hf => by have := hG g hf; omega, hc⟩
theorem rdc_err {f : Nat} {c : Nat × Nat × Nat} {cs : List (Nat × Nat × Nat)} {S : Dsk} {acc : List UInt8} (h : S.ans true ≠ 0) : rdc f (c :: cs) S acc = (S.done true, S.ans true, []) := by simp [rdc, h]
theorem rdc_ok {f : Nat} {c : Nat × Nat × Nat} {cs : List (Nat × Nat × Nat)} {S : Dsk} {acc : List UInt8} (h : S.ans true = 0) : rdc f (c :: cs) S acc = rdc f cs (S.done true) (acc ++ ((S.sec (f + c.1)).drop c.2.1).take c.2.2) := by simp [rdc, h]
theorem xread_err {S : Dsk} {n : Nat} {f c off m : Int} (h : xerr n f c off m ≠ 0) : S.xread n f c off m = (S, xerr n f c off m, []) := by simp [Dsk.xread, h]
theorem xread_fine {S : Dsk} {n f c off m : Nat} (h : xerr n f c off m = 0) : S.xread n f c off m = rdc f (ck off m) S [] := by simp [Dsk.xread, h]
theorem sp_bounds {off m i c : Nat} (h : off + m ≤ 64 * c) (h0 : sp0 off m ≤ i) (h1 : i < sp1 off m) : 0 < m ∧ off / 64 ≤ i ∧ 64 * i < off + m ∧ i < c := by
  unfold sp0 at h0
  unfold sp1 at h1
  split at h1
  · omega
  · rename_i hm
    rw [if_neg hm] at h0
    omega
theorem sp_end {off m i c : Nat} (h : off + m ≤ 64 * c) (h0 : sp0 off m ≤ i) (h1 : ¬ i < sp1 off m) : cki off m i = [] := by
  unfold sp0 at h0
  unfold sp1 at h1
  split at h1
  · rename_i hm
    subst hm
    unfold cki
    rw [show off + 0 - max off (64 * i) = 0 by omega, ck_zero]
  · exact cki_end (by omega)
theorem sp_start (off m : Nat) : cki off m (sp0 off m) = ck off m := by
  unfold sp0
  split
  · rename_i h; subst h; exact cki_none off
  · exact cki_start off m
theorem sp_le (off m : Nat) : sp0 off m ≤ sp1 off m := by unfold sp0 sp1; split <;> omega
theorem sp1_le {off m c : Nat} (h : off + m ≤ 64 * c) : sp1 off m ≤ c := by unfold sp1; split <;> omega

set_option maxRecDepth 20000 in
set_option maxHeartbeats 3200000 in
theorem xread_any {w : World} {F : Nat → Prop} {a n : Nat} {S : Dsk} (h : PD w F a n S) (f c off m : Int) (hf : f ≤ 9223372036854775807) (hoff : off ≤ 9223372036854775807) (hm : m ≤ 9223372036854775807) :
    Calls Try.prog 28 #[.pointer (some ⟨a, 0, none⟩), .agg #[.int .i64 f, .int .i64 c], .int .i64 off, .int .i64 m] w fun e w' =>
      ∃ v, e = .returned (.tuple #[v, .int .i64 (S.xread n f c off m).2.1]) ∧ RdW w w' v (S.xread n f c off m).2.2 ∧ PD w' F a n (S.xread n f c off m).1 ∧ Frm F w w' := by
  have hb0 : Below w.heap.size w (w.alloc (.cells #[.int .i64 f, .int .i64 c] 50)) := (Below.refl _ _).alloc (Nat.le_refl _) _
  have hv := rangeError_any (h.below hb0) f c off m hf hoff hm
  have hl := heap_alloc_last w (.cells #[.int .i64 f, .int .i64 c] 50)
  have hzF : Hid (¬ F w.heap.size) := fun hb => Nat.lt_irrefl _ (h.lt _ hb)
  have H0 := Lib.hid (h.below hb0)
  have HB0 := Lib.hid hb0
  have HL := Lib.hid hl
  have HFl : Hid (∀ b, F b → b < w.heap.size) := h.lt
  have hn4 := Lib.hid h.ok.n4
  clear h hb0 hl
  by_cases hx : xerr n f c off m = 0
  · rw [hx] at hv
    obtain ⟨f, c, off, m, rfl, rfl, rfl, rfl, hc1, hfc, hom⟩ := xerr_fine hx
    rw [xread_fine hx]
    have HC : Hid (1 ≤ c ∧ f + c ≤ n ∧ off + m ≤ 64 * c) := ⟨hc1, hfc, hom⟩
    have hmb : (m : Int) ≤ 262144 := by have := hn4.out; omega
    have hm0 : (0 : Int) ≤ (m : Int) := by omega
    have hfb : (f : Int) ≤ 4096 := by have := hn4.out; omega
    have hsp := fun W => span_any off m W (by have := hn4.out; omega) (by have := hn4.out; omega)
    obtain ⟨i0, hi0⟩ : ∃ i0, i0 = sp0 off m := ⟨_, rfl⟩
    obtain ⟨i1, hi1⟩ : ∃ i1, i1 = sp1 off m := ⟨_, rfl⟩
    rw [← hi0, ← hi1] at hsp
    have hi1b : (i1 : Int) ≤ 4096 := by rw [hi1]; have := sp1_le hom; have := hn4.out; omega
    have HI0 := Lib.hid hi0
    have HI1 := Lib.hid hi1
    obtain ⟨R, hR⟩ : ∃ R, rdc f (ck off m) S [] = R := ⟨_, rfl⟩
    rw [hR]
    have HR := Lib.hid hR
    clear hi0 hi1 hc1 hfc hom hf hoff hm hx hR
    obtain ⟨i5, hi5, hz0, hz1, hz2⟩ := info_parts infoU8
    go_enter Try.func28, Try.ntmps28
    go_wp2_with (first
      | (go_at_call 63; refine hv.mono ?_; rintro e w1 ⟨rfl, hb1⟩
         have H1 := Lib.hid (H0.out.below hb1)
         have HB1 := Lib.hid (HB0.out.trans (hb1.mono HB0.out.size))
         have z0 : w1.cell? ⟨w.heap.size, 0, none⟩ = some (.int .i64 f) := (hb1.cell (p := ⟨w.heap.size, 0, none⟩) (by simp)).trans (cell_of_row _ _ 0 _ _ _ HL.out)
         clear hb1)
      | (at_make; refine wpList_make_room _ rfl _ _ rfl (m : Int) (by exact rfl) (by exact rfl) hm0 (by omega) ?_; intro v2 w2 hown2 hb2
         have H2 := Lib.hid (H1.out.below hb2)
         have HB2 := Lib.hid (HB1.out.trans (hb2.mono HB1.out.size))
         have HW : Hid (w.heap.size < w1.heap.size ∧ w1.heap.size ≤ w2.heap.size) := ⟨cell_lt z0, hb2.size⟩
         have z2 := (hb2.cell (p := ⟨w.heap.size, 0, none⟩) (cell_lt z0)).trans z0
         have HO := Lib.hid hown2
         clear hb2 z0 hown2
         generalize w1.heap.size = B8 at *)
      | (go_at_call 64; refine (hsp _).mono ?_; rintro e w' ⟨rfl, rfl⟩))
    go_loopw [11, 14] (fun dv iv wr => ∃ (i : Nat) (acc : List UInt8) (T : Dsk), i0 ≤ i ∧ i ≤ i1 ∧ iv = .int .i64 i ∧ wr.ownsRow B8 5 1 dv acc.length (acc.map bv) ∧ wr.cell? ⟨w.heap.size, 0, none⟩ = some (.int .i64 f) ∧ Hid (acc.length ≤ 64 * i ∧ rdc f (cki off m i) T acc = R ∧ PD wr F a n T ∧ Frm F w wr ∧ B8 ≤ wr.heap.size)) (fun _ iv _ => i1 - (RowKit.intOf iv).toNat)
    case atStart =>
      exact ⟨i0, [], S, Nat.le_refl _, by rw [HI0.out, HI1.out]; exact sp_le off m, rfl, HO.out, z2, by simp, by rw [HI0.out, sp_start]; exact HR.out, H2.out, Frm.of_below HB2.out, HW.out.2⟩
    case round =>
      obtain ⟨i, acc, T, hi0, hi1, rfl, hown, z3, HI⟩ := hrel
      have hib : (i : Int) ≤ 4096 := by omega
      have HOWN := Lib.hid hown
      by_cases hlt : i < i1
      · have hd : decide ((i : Int) < (i1 : Int)) = true := by simpa using hlt
        obtain ⟨hm1, ho1, ho2, hic⟩ := sp_bounds HC.out.2.2 (by rw [← HI0.out]; exact hi0) (by rw [← HI1.out]; exact hlt)
        have hfi : f + i < n := by have := HC.out.2.1; omega
        have hst := Lib.hid (cki_step ho1 hm1 ho2)
        obtain ⟨hp1, hp2⟩ := pfrom_le ho1 hm1 ho2
        have hprt := fun W => part_any i off m W (by have := HC.out; have := hn4.out; omega) (by have := HC.out; have := hn4.out; omega) (by omega)
        obtain ⟨u, hu⟩ : ∃ u, u = pfrom off i := ⟨_, rfl⟩
        obtain ⟨t, ht⟩ : ∃ t, t = pto off m i := ⟨_, rfl⟩
        rw [← hu, ← ht] at hprt hst hp1
        rw [← ht] at hp2
        clear hu ht
        have hut : (u : Int) ≤ (t : Int) := by omega
        have ht64 : (t : Int) ≤ 64 := by omega
        have hrd := pread_any HI.out.2.2.1 (f + i) hfi
        rw [show (((f + i : Nat) : Int)) = (f : Int) + (i : Int) by omega] at hrd
        go_wp2_with fail
        refine hrd.mono ?_
        rintro e w3 ⟨v3, zz, rfl, hzz, hp3, hf3, hgood⟩
        have z4 := (hf3.cell (p := ⟨w.heap.size, 0, none⟩) (cell_lt z3) hzF.out).trans z3
        by_cases ha : T.ans true = 0
        · obtain rfl : zz = 0 := hzz.trans ha
          obtain ⟨g, cg, rfl, hg, hog⟩ := hgood rfl
          have hcg : 64 ≤ cg := by obtain ⟨_, _, _, h, _⟩ := hog; exact h
          have hcu : ¬ cg = u := by omega
          have htc : (t : Int) ≤ (cg : Int) := by omega
          have hsrc : Has w3 w3.heap.size (some ⟨g, u, none⟩) (t - u) ((((T.sec (f + i)).drop u).take (t - u)).map bv) := by
            have := hog.has.part u (t - u) (by omega)
            rw [Nat.zero_add] at this
            rw [List.map_take, List.map_drop]
            exact this
          have hown3 := own_frm HOWN.out hf3 (fun b hb => by have := HFl.out b hb; have := HW.out.1; omega)
          have hB3 : B8 ≤ w3.heap.size := by have := HI.out.2.2.2.2; have := hf3.size; omega
          have h63 : Hid (acc.length + (t - u) ≤ maxLen) := by show _ ≤ _; have := HI.out.1; unfold maxLen; omega
          have hby : Hid ((acc.length + (t - u)) * 1 ≤ 140737488355328) := by show _ ≤ _; have := HI.out.1; omega
          have H3 := Lib.hid (And.intro hp3 hf3)
          clear hp3 hf3 hog hgood hzz hrd z3 hp1 hp2 hm1 ho1 ho2 hown
          go_wp2_with (first
            | (go_at_call 65; refine (hprt _).mono ?_; rintro e w' ⟨rfl, rfl⟩)
            | (at_builtin; refine wpList_app_has _ rfl _ _ 32 (by exact rfl) B8 5 i5 (.int .u8 0) 1 tyBs hi5 hz0 hz1 hz2 rfl _ acc.length _ (by exact rfl) hown3 (some ⟨g, u, none⟩) (t - u) _ _ _ (by exact rfl) (fun e => by cases e) hsrc (one_bytes _) h63.out hby.out (Below.refl B8 w3) hB3 ?_; intro v' w4 hown4 hb4 hg4))
          go_roundw
          case rel =>
            have hlen : (((T.sec (f + i)).drop u).take (t - u)).length = t - u := by have := hsrc.1; simpa using this
            refine ⟨i + 1, acc ++ ((T.sec (f + i)).drop u).take (t - u), T.done true, by omega, by omega, by go_num, ?_, (hb4.cell (p := ⟨w.heap.size, 0, none⟩) HW.out.1).trans z4, ?_, ?_, H3.out.1.keep (frm_above hb4) fun b hb hF => by have := HFl.out b hF; have := HW.out.1; omega, ?_, by have := hb4.size; omega⟩
            · rw [List.map_append, List.length_append, hlen]; exact hown4
            · rw [List.length_append, hlen]; have := HI.out.1; omega
            · rw [← HI.out.2.1, hst.out, rdc_ok ha]
            · exact (HI.out.2.2.2.1.trans' H3.out.2).trans (frm_above hb4) fun b hb => .inr (by have := HW.out.1; omega)
          case measure => simp [RowKit.intOf]; omega
        · have hRe : R = (T.done true, T.ans true, []) := by rw [← HI.out.2.1, hst.out, rdc_err ha]
          have hzn : (zz == 0) = false := by rw [hzz]; simpa using ha
          have H3 := Lib.hid (And.intro hp3 (And.intro hf3 (And.intro hRe hzz)))
          clear hp3 hf3 hgood hzz hrd z3 hp1 hp2 hm1 ho1 ho2 hown ha hRe
          go_wp2_with fail
          go_ret2
          obtain ⟨hp3, hf3, hRe, hzz⟩ := H3.out
          subst hRe hzz
          exact ⟨_, rfl, rdw_none _ _, hp3, HI.out.2.2.2.1.trans' hf3⟩
      · have hd : decide ((i : Int) < (i1 : Int)) = false := by simpa using hlt
        have hRe : R = (T, 0, acc) := by rw [← HI.out.2.1, sp_end HC.out.2.2 (by rw [← HI0.out]; exact hi0) (by rw [← HI1.out]; exact hlt)]; rfl
        have HRe := Lib.hid hRe
        clear hRe hown
        go_wp2_with fail
        go_ret2
        have hRe := HRe.out
        subst hRe
        exact ⟨_, rfl, rdw_own HOWN.out (by have := HW.out.1; omega), HI.out.2.2.1, HI.out.2.2.2.1⟩
  · rw [xread_err hx]
    obtain ⟨er, her⟩ : ∃ er, er = xerr n f c off m := ⟨_, rfl⟩
    rw [← her] at hv hx ⊢
    have hne : (er == 0) = false := by simpa using hx
    clear hx her
    go_enter Try.func28, Try.ntmps28
    go_wp2_with (go_at_call 63; refine hv.mono ?_; rintro e w1 ⟨rfl, hb1⟩)
    go_ret2
    have hb := HB0.out.trans (hb1.mono HB0.out.size)
    exact ⟨_, rfl, rdw_none _ _, H0.out.below hb1, Frm.of_below hb⟩

end Go.Proofs.Ytbknpfngboioeaa
