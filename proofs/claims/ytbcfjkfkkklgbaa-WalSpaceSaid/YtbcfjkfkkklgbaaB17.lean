/-
The contract of extent.Read.
The contract of extent.replace.
The contract of extent.Write.
The program's log in memory.
-/
import Derived.Test.YtbcfjkfkkklgbaaB12
import Derived.Test.YtbcfjkfkkklgbaaB06
import Derived.Test.YtbcfjkfkkklgbaaB16
import Derived.Test.YtbcfjkfkkklgbaaB14
import Derived.Deep.RegionHeld3
import Derived.Test.YtbcfjkfkkklgbaaB08
namespace Go.Proofs.Ytbcfjkfkkklgbaa
section
open Go.RowKit

/-- Read of the program's disk in the form of the reference's. -/
theorem pread_any {w : World} {F : Nat → Prop} {a n : Nat} {S : Dsk} (h : PD w F a n S) (i : Nat) (hi : i < n) :
    Calls Try.prog 21 #[.pointer (some ⟨a, 0, none⟩), .int .i64 i] w fun e w' => ∃ v z, e = .returned (.tuple #[v, .int .i64 z]) ∧ z = S.ans true ∧ PD w' F a n (S.done true) ∧ Frm F w w' ∧
      (z = 0 → ∃ g c, v = .slice (some ⟨g, 0, none⟩) 64 c ∧ w.heap.size ≤ g ∧ Own8 w' g c 64 (S.sec i)) := by
  have hin : inR n (i : Int) = true := by simp [inR, hi]
  by_cases hz : S.ans true = 0
  · have he : S.err true = 0 := by
      unfold Dsk.ans at hz
      split at hz
      · exact hz
      · rename_i h; simpa using h
    have hp : S.pow true = false := by
      cases hp : S.pow true with
      | false => rfl
      | true => unfold Dsk.ans at hz; rw [he, hp] at hz; simp at hz
    refine (read_yes h i hi he hp).mono ?_
    rintro e w' ⟨h1, h2, g, rfl, hg, hrow⟩
    have hdn : S.done true = S.begun true := by simp [Dsk.done, he, hp]
    have hl := h.ok.sec hi
    exact ⟨_, 0, rfl, hz.symm, by rw [hdn]; exact h1, h2, fun _ => ⟨g, 64, rfl, hg, _, hrow, by simp [hl], Nat.le_refl _, by simp; rw [← List.map_take, List.take_of_length_le (by omega)]⟩⟩
  · have := read_any h (i : Int)
    rw [hin] at this
    refine this.mono ?_
    rintro e w' ⟨v, rfl, _, h1, h2⟩
    exact ⟨v, _, rfl, rfl, h1, h2, fun h => absurd h hz⟩

/-- What a Read answers: a slice that reads as a list, in new memory. -/
def RdW (w w' : World) (v : Value) (l : List UInt8) : Prop := ∃ A m c, v = .slice A m c ∧ (A = none → c = 0) ∧ m ≤ c ∧ ∀ G : Nat → Prop, (∀ b, G b → b < w.heap.size) → HasF G w' A m (l.map bv)
theorem rdw_none (w w' : World) : RdW w w' (.slice none 0 0) [] := ⟨none, 0, 0, rfl, fun _ => rfl, Nat.le_refl _, fun G _ => ⟨rfl, fun h => absurd h (by omega)⟩⟩
theorem rdw_own {w w' : World} {B n : Nat} {v : Value} {l : List UInt8} (h : w'.ownsRow B 5 1 v n (l.map bv)) (hB : w.heap.size ≤ B) : RdW w w' v l := by
  obtain ⟨A, c, rfl, _, hnc'⟩ := Has.of_own h
  refine ⟨A, n, c, rfl, of_own_none h, hnc', fun G hG => ?_⟩
  rcases h.2 with ⟨e, hn⟩ | ⟨g, cap, cur, e, hb, hg, hnc, _⟩
  · subst hn
    exact ⟨by simpa using h.1, fun h0 => absurd h0 (by omega)⟩
  · obtain ⟨A', c', e', hh, _⟩ := Has.of_own h
    refine ⟨hh.1, fun h0 => ?_⟩
    obtain ⟨b, off, eb, hlt, hc⟩ := hh.2 h0
    injection e with e1 _ _
    injection e' with e2 _ _
    rw [← e2, e1] at eb
    injection eb with eb
    injection eb with eb1 eb2
    subst eb1
    exact ⟨g, off, by rw [e1]; congr 2, hlt, fun hf => by have := hG g hf; omega, hc⟩
theorem rdc_err {f : Nat} {c : Nat × Nat × Nat} {cs : List (Nat × Nat × Nat)} {S : Dsk} {acc : List UInt8} (h : S.ans true ≠ 0) : rdc f (c :: cs) S acc = (S.done true, S.ans true, []) := by simp [rdc, h]
theorem rdc_ok {f : Nat} {c : Nat × Nat × Nat} {cs : List (Nat × Nat × Nat)} {S : Dsk} {acc : List UInt8} (h : S.ans true = 0) : rdc f (c :: cs) S acc = rdc f cs (S.done true) (acc ++ ((S.sec (f + c.1)).drop c.2.1).take c.2.2) := by simp [rdc, h]
theorem xread_err {S : Dsk} {n : Nat} {f c off m : Int} (h : xerr n f c off m ≠ 0) : S.xread n f c off m = (S, xerr n f c off m, []) := by simp [Dsk.xread, h]
theorem xread_fine {S : Dsk} {n f c off m : Nat} (h : xerr n f c off m = 0) : S.xread n f c off m = rdc f (ck off m) S [] := by simp [Dsk.xread, h]
theorem sp_bounds {off m i c : Nat} (h : off + m ≤ 64 * c) (h0 : sp0 off m ≤ i) (h1 : i < sp1 off m) : 0 < m ∧ off / 64 ≤ i ∧ 64 * i < off + m ∧ i < c := by
  unfold sp0 at h0
  unfold sp1 at h1
  split at h1
  · omega
  · rename_i hm
    rw [if_neg hm] at h0
    omega
theorem sp_end {off m i c : Nat} (h : off + m ≤ 64 * c) (h0 : sp0 off m ≤ i) (h1 : ¬ i < sp1 off m) : cki off m i = [] := by
  unfold sp0 at h0
  unfold sp1 at h1
  split at h1
  · rename_i hm
    subst hm
    unfold cki
    rw [show off + 0 - max off (64 * i) = 0 by omega, ck_zero]
  · exact cki_end (by omega)
theorem sp_start (off m : Nat) : cki off m (sp0 off m) = ck off m := by
  unfold sp0
  split
  · rename_i h; subst h; exact cki_none off
  · exact cki_start off m
theorem sp_le (off m : Nat) : sp0 off m ≤ sp1 off m := by unfold sp0 sp1; split <;> omega
theorem sp1_le {off m c : Nat} (h : off + m ≤ 64 * c) : sp1 off m ≤ c := by unfold sp1; split <;> omega

set_option maxRecDepth 20000 in
set_option maxHeartbeats 3200000 in
theorem xread_any {w : World} {F : Nat → Prop} {a n : Nat} {S : Dsk} (h : PD w F a n S) (f c off m : Int) (hf : f ≤ 9223372036854775807) (hoff : off ≤ 9223372036854775807) (hm : m ≤ 9223372036854775807) :
    Calls Try.prog 38 #[.pointer (some ⟨a, 0, none⟩), .agg #[.int .i64 f, .int .i64 c], .int .i64 off, .int .i64 m] w fun e w' =>
      ∃ v, e = .returned (.tuple #[v, .int .i64 (S.xread n f c off m).2.1]) ∧ RdW w w' v (S.xread n f c off m).2.2 ∧ PD w' F a n (S.xread n f c off m).1 ∧ Frm F w w' := by
  have hb0 : Below w.heap.size w (w.alloc (.cells #[.int .i64 f, .int .i64 c] 32)) := (Below.refl _ _).alloc (Nat.le_refl _) _
  have hv := rangeError_any (h.below hb0) f c off m hf hoff hm
  have hl := heap_alloc_last w (.cells #[.int .i64 f, .int .i64 c] 32)
  have hzF : Hid (¬ F w.heap.size) := fun hb => Nat.lt_irrefl _ (h.lt _ hb)
  have H0 := Lib.hid (h.below hb0)
  have HB0 := Lib.hid hb0
  have HL := Lib.hid hl
  have HFl : Hid (∀ b, F b → b < w.heap.size) := h.lt
  have hn4 := Lib.hid h.ok.n4
  clear h hb0 hl
  by_cases hx : xerr n f c off m = 0
  · rw [hx] at hv
    obtain ⟨f, c, off, m, rfl, rfl, rfl, rfl, hc1, hfc, hom⟩ := xerr_fine hx
    rw [xread_fine hx]
    have HC : Hid (1 ≤ c ∧ f + c ≤ n ∧ off + m ≤ 64 * c) := ⟨hc1, hfc, hom⟩
    have hmb : (m : Int) ≤ 262144 := by have := hn4.out; omega
    have hm0 : (0 : Int) ≤ (m : Int) := by omega
    have hfb : (f : Int) ≤ 4096 := by have := hn4.out; omega
    have hsp := fun W => span_any off m W (by have := hn4.out; omega) (by have := hn4.out; omega)
    obtain ⟨i0, hi0⟩ : ∃ i0, i0 = sp0 off m := ⟨_, rfl⟩
    obtain ⟨i1, hi1⟩ : ∃ i1, i1 = sp1 off m := ⟨_, rfl⟩
    rw [← hi0, ← hi1] at hsp
    have hi1b : (i1 : Int) ≤ 4096 := by rw [hi1]; have := sp1_le hom; have := hn4.out; omega
    have HI0 := Lib.hid hi0
    have HI1 := Lib.hid hi1
    obtain ⟨R, hR⟩ : ∃ R, rdc f (ck off m) S [] = R := ⟨_, rfl⟩
    rw [hR]
    have HR := Lib.hid hR
    clear hi0 hi1 hc1 hfc hom hf hoff hm hx hR
    obtain ⟨i5, hi5, hz0, hz1, hz2⟩ := info_parts infoU8
    go_enter Try.func38, Try.ntmps38
    go_wp2_with (first
      | (go_at_call 81; refine hv.mono ?_; rintro e w1 ⟨rfl, hb1⟩
         have H1 := Lib.hid (H0.out.below hb1)
         have HB1 := Lib.hid (HB0.out.trans (hb1.mono HB0.out.size))
         have z0 : w1.cell? ⟨w.heap.size, 0, none⟩ = some (.int .i64 f) := (hb1.cell (p := ⟨w.heap.size, 0, none⟩) (by simp)).trans (cell_of_row _ _ 0 _ _ _ HL.out)
         clear hb1)
      | (at_make; refine wpList_make_room _ rfl _ _ rfl (m : Int) (by exact rfl) (by exact rfl) hm0 (by omega) ?_; intro v2 w2 hown2 hb2
         have H2 := Lib.hid (H1.out.below hb2)
         have HB2 := Lib.hid (HB1.out.trans (hb2.mono HB1.out.size))
         have HW : Hid (w.heap.size < w1.heap.size ∧ w1.heap.size ≤ w2.heap.size) := ⟨cell_lt z0, hb2.size⟩
         have z2 := (hb2.cell (p := ⟨w.heap.size, 0, none⟩) (cell_lt z0)).trans z0
         have HO := Lib.hid hown2
         clear hb2 z0 hown2
         generalize w1.heap.size = B8 at *)
      | (go_at_call 82; refine (hsp _).mono ?_; rintro e w' ⟨rfl, rfl⟩))
    go_loopw [11, 14] (fun dv iv wr => ∃ (i : Nat) (acc : List UInt8) (T : Dsk), i0 ≤ i ∧ i ≤ i1 ∧ iv = .int .i64 i ∧ wr.ownsRow B8 5 1 dv acc.length (acc.map bv) ∧ wr.cell? ⟨w.heap.size, 0, none⟩ = some (.int .i64 f) ∧ Hid (acc.length ≤ 64 * i ∧ rdc f (cki off m i) T acc = R ∧ PD wr F a n T ∧ Frm F w wr ∧ B8 ≤ wr.heap.size)) (fun _ iv _ => i1 - (RowKit.intOf iv).toNat)
    case atStart =>
      exact ⟨i0, [], S, Nat.le_refl _, by rw [HI0.out, HI1.out]; exact sp_le off m, rfl, HO.out, z2, by simp, by rw [HI0.out, sp_start]; exact HR.out, H2.out, Frm.of_below HB2.out, HW.out.2⟩
    case round =>
      obtain ⟨i, acc, T, hi0, hi1, rfl, hown, z3, HI⟩ := hrel
      have hib : (i : Int) ≤ 4096 := by omega
      have HOWN := Lib.hid hown
      by_cases hlt : i < i1
      · have hd : decide ((i : Int) < (i1 : Int)) = true := by simpa using hlt
        obtain ⟨hm1, ho1, ho2, hic⟩ := sp_bounds HC.out.2.2 (by rw [← HI0.out]; exact hi0) (by rw [← HI1.out]; exact hlt)
        have hfi : f + i < n := by have := HC.out.2.1; omega
        have hst := Lib.hid (cki_step ho1 hm1 ho2)
        obtain ⟨hp1, hp2⟩ := pfrom_le ho1 hm1 ho2
        have hprt := fun W => part_any i off m W (by have := HC.out; have := hn4.out; omega) (by have := HC.out; have := hn4.out; omega) (by omega)
        obtain ⟨u, hu⟩ : ∃ u, u = pfrom off i := ⟨_, rfl⟩
        obtain ⟨t, ht⟩ : ∃ t, t = pto off m i := ⟨_, rfl⟩
        rw [← hu, ← ht] at hprt hst hp1
        rw [← ht] at hp2
        clear hu ht
        have hut : (u : Int) ≤ (t : Int) := by omega
        have ht64 : (t : Int) ≤ 64 := by omega
        have hrd := pread_any HI.out.2.2.1 (f + i) hfi
        rw [show (((f + i : Nat) : Int)) = (f : Int) + (i : Int) by omega] at hrd
        go_wp2_with fail
        refine hrd.mono ?_
        rintro e w3 ⟨v3, zz, rfl, hzz, hp3, hf3, hgood⟩
        have z4 := (hf3.cell (p := ⟨w.heap.size, 0, none⟩) (cell_lt z3) hzF.out).trans z3
        by_cases ha : T.ans true = 0
        · obtain rfl : zz = 0 := hzz.trans ha
          obtain ⟨g, cg, rfl, hg, hog⟩ := hgood rfl
          have hcg : 64 ≤ cg := by obtain ⟨_, _, _, h, _⟩ := hog; exact h
          have hcu : ¬ cg = u := by omega
          have htc : (t : Int) ≤ (cg : Int) := by omega
          have hsrc : Has w3 w3.heap.size (some ⟨g, u, none⟩) (t - u) ((((T.sec (f + i)).drop u).take (t - u)).map bv) := by
            have := hog.has.part u (t - u) (by omega)
            rw [Nat.zero_add] at this
            rw [List.map_take, List.map_drop]
            exact this
          have hown3 := own_frm HOWN.out hf3 (fun b hb => by have := HFl.out b hb; have := HW.out.1; omega)
          have hB3 : B8 ≤ w3.heap.size := by have := HI.out.2.2.2.2; have := hf3.size; omega
          have h63 : Hid (acc.length + (t - u) ≤ maxLen) := by show _ ≤ _; have := HI.out.1; unfold maxLen; omega
          have hby : Hid ((acc.length + (t - u)) * 1 ≤ 140737488355328) := by show _ ≤ _; have := HI.out.1; omega
          have H3 := Lib.hid (And.intro hp3 hf3)
          clear hp3 hf3 hog hgood hzz hrd z3 hp1 hp2 hm1 ho1 ho2 hown
          go_wp2_with (first
            | (go_at_call 83; refine (hprt _).mono ?_; rintro e w' ⟨rfl, rfl⟩)
            | (at_builtin; refine wpList_app_has _ rfl _ _ 34 (by exact rfl) B8 5 i5 (.int .u8 0) 1 tyBs hi5 hz0 hz1 hz2 rfl _ acc.length _ (by exact rfl) hown3 (some ⟨g, u, none⟩) (t - u) _ _ _ (by exact rfl) (fun e => by cases e) hsrc (one_bytes _) h63.out hby.out (Below.refl B8 w3) hB3 ?_; intro v' w4 hown4 hb4 hg4))
          go_roundw
          case rel =>
            have hlen : (((T.sec (f + i)).drop u).take (t - u)).length = t - u := by have := hsrc.1; simpa using this
            refine ⟨i + 1, acc ++ ((T.sec (f + i)).drop u).take (t - u), T.done true, by omega, by omega, by go_num, ?_, (hb4.cell (p := ⟨w.heap.size, 0, none⟩) HW.out.1).trans z4, ?_, ?_, H3.out.1.keep (frm_above hb4) fun b hb hF => by have := HFl.out b hF; have := HW.out.1; omega, ?_, by have := hb4.size; omega⟩
            · rw [List.map_append, List.length_append, hlen]; exact hown4
            · rw [List.length_append, hlen]; have := HI.out.1; omega
            · rw [← HI.out.2.1, hst.out, rdc_ok ha]
            · exact (HI.out.2.2.2.1.trans' H3.out.2).trans (frm_above hb4) fun b hb => .inr (by have := HW.out.1; omega)
          case measure => simp [RowKit.intOf]; omega
        · have hRe : R = (T.done true, T.ans true, []) := by rw [← HI.out.2.1, hst.out, rdc_err ha]
          have hzn : (zz == 0) = false := by rw [hzz]; simpa using ha
          have H3 := Lib.hid (And.intro hp3 (And.intro hf3 (And.intro hRe hzz)))
          clear hp3 hf3 hgood hzz hrd z3 hp1 hp2 hm1 ho1 ho2 hown ha hRe
          go_wp2_with fail
          go_ret2
          obtain ⟨hp3, hf3, hRe, hzz⟩ := H3.out
          subst hRe hzz
          exact ⟨_, rfl, rdw_none _ _, hp3, HI.out.2.2.2.1.trans' hf3⟩
      · have hd : decide ((i : Int) < (i1 : Int)) = false := by simpa using hlt
        have hRe : R = (T, 0, acc) := by rw [← HI.out.2.1, sp_end HC.out.2.2 (by rw [← HI0.out]; exact hi0) (by rw [← HI1.out]; exact hlt)]; rfl
        have HRe := Lib.hid hRe
        clear hRe hown
        go_wp2_with fail
        go_ret2
        have hRe := HRe.out
        subst hRe
        exact ⟨_, rfl, rdw_own HOWN.out (by have := HW.out.1; omega), HI.out.2.2.1, HI.out.2.2.2.1⟩
  · rw [xread_err hx]
    obtain ⟨er, her⟩ : ∃ er, er = xerr n f c off m := ⟨_, rfl⟩
    rw [← her] at hv hx ⊢
    have hne : (er == 0) = false := by simpa using hx
    clear hx her
    go_enter Try.func38, Try.ntmps38
    go_wp2_with (go_at_call 81; refine hv.mono ?_; rintro e w1 ⟨rfl, hb1⟩)
    go_ret2
    have hb := HB0.out.trans (hb1.mono HB0.out.size)
    exact ⟨_, rfl, rdw_none _ _, H0.out.below hb1, Frm.of_below hb⟩
end

section
open Go.RowKit

theorem ans_zero {S : Dsk} (hz : S.ans true = 0) : S.err true = 0 ∧ S.pow true = false := by
  have he : S.err true = 0 := by
    unfold Dsk.ans at hz
    split at hz
    · exact hz
    · rename_i h; simpa using h
  refine ⟨he, ?_⟩
  cases hp : S.pow true with
  | false => rfl
  | true => unfold Dsk.ans at hz; rw [he, hp] at hz; simp at hz
/-- Read of the program's disk, its answer as a row. -/
theorem prow_any {w : World} {F : Nat → Prop} {a n : Nat} {S : Dsk} (h : PD w F a n S) (i : Nat) (hi : i < n) :
    Calls Try.prog 21 #[.pointer (some ⟨a, 0, none⟩), .int .i64 i] w fun e w' => ∃ v z, e = .returned (.tuple #[v, .int .i64 z]) ∧ z = S.ans true ∧ PD w' F a n (S.done true) ∧ Frm F w w' ∧
      (z = 0 → ∃ g, v = .slice (some ⟨g, 0, none⟩) 64 64 ∧ w.heap.size ≤ g ∧ w'.heap[g]? = some (.cells ((S.sec i).map bv).toArray 5 (0, 0))) := by
  have hin : inR n (i : Int) = true := by simp [inR, hi]
  by_cases hz : S.ans true = 0
  · obtain ⟨he, hp⟩ := ans_zero hz
    refine (read_yes h i hi he hp).mono ?_
    rintro e w' ⟨h1, h2, g, rfl, hg, hrow⟩
    have hdn : S.done true = S.begun true := by simp [Dsk.done, he, hp]
    exact ⟨_, 0, rfl, hz.symm, by rw [hdn]; exact h1, h2, fun _ => ⟨g, rfl, hg, hrow⟩⟩
  · have := read_any h (i : Int)
    rw [hin] at this
    refine this.mono ?_
    rintro e w' ⟨v, rfl, _, h1, h2⟩
    exact ⟨v, _, rfl, rfl, h1, h2, fun h => absurd h hz⟩
theorem pwide {w v x : World} {F : Nat → Prop} {a n : Nat} {S : Dsk} (h : PD x (fun b => F b ∨ newF v x b) a n S) (hs : w.heap.size ≤ v.heap.size) : PD x (fun b => F b ∨ newF w x b) a n S :=
  h.more (fun b hb => hb.elim .inl fun h => .inr ⟨by have := h.1; omega, h.2⟩) fun b hb => hb.elim (fun h1 => h.lt b (.inl h1)) fun h => h.2
theorem splice_map (l xs : List UInt8) (p : Nat) : splice (l.map bv) p (xs.map bv) = (splice l p xs).map bv := by simp [splice, List.map_take, List.map_drop]
theorem wany_true {w : World} {F : Nat → Prop} {a n : Nat} {S : Dsk} (h : PD w F a n S) (i : Nat) (hi : i < n) (A : Option Addr) (cap : Nat) (l : List UInt8) (hA : HasF F w A 64 (l.map bv)) :
    Calls Try.prog 24 #[.pointer (some ⟨a, 0, none⟩), .int .i64 i, .slice A 64 cap] w fun e w' => e = .returned (.int .i64 (S.ans true)) ∧ PD w' (fun b => F b ∨ newF w w' b) a n (S.wrote true i l) ∧ Frm F w w' := by
  have := write_any h (i : Int) A 64 cap l hA
  have hin : (inR n (i : Int) && decide (64 = 64)) = true := by simp [inR, hi]
  rw [hin] at this
  exact this
theorem repl_full {S : Dsk} {i p : Nat} {xs : List UInt8} (h : xs.length = 64) : S.repl i p xs = (S.wrote true i xs, S.ans true) := by simp [Dsk.repl, h]
theorem repl_err {S : Dsk} {i p : Nat} {xs : List UInt8} (h : xs.length ≠ 64) (ha : S.ans true ≠ 0) : S.repl i p xs = (S.done true, S.ans true) := by simp [Dsk.repl, h, ha]
theorem repl_part {S : Dsk} {i p : Nat} {xs : List UInt8} (h : xs.length ≠ 64) (ha : S.ans true = 0) : S.repl i p xs = ((S.done true).wrote true i (splice (S.sec i) p xs), (S.done true).ans true) := by simp [Dsk.repl, h, ha]

set_option maxRecDepth 20000 in
set_option maxHeartbeats 1600000 in
theorem repl_any {w : World} {F : Nat → Prop} {a n : Nat} {S : Dsk} (h : PD w F a n S) (i p : Nat) (hi : i < n) (A : Option Addr) (len cap : Nat) (xs : List UInt8) (hA : HasF F w A len (xs.map bv)) (h0 : 0 < len) (hp : p + len ≤ 64) :
    Calls Try.prog 85 #[.pointer (some ⟨a, 0, none⟩), .int .i64 i, .int .i64 p, .slice A len cap] w fun e w' => e = .returned (.int .i64 (S.repl i p xs).2) ∧ PD w' (fun b => F b ∨ newF w w' b) a n (S.repl i p xs).1 ∧ Frm F w w' := by
  have hxl : xs.length = len := by simpa using hA.1
  have hn4 := h.ok.n4
  by_cases h64 : len = 64
  · subst h64
    have hwr := wany_true h i hi A cap xs hA
    rw [repl_full hxl]
    obtain ⟨er, her⟩ : ∃ er, er = S.ans true := ⟨_, rfl⟩
    rw [← her] at hwr ⊢
    clear h hA hp h0 hxl her
    go_enter Try.func85, Try.ntmps85
    go_wp2_with fail
    refine hwr.mono ?_
    rintro e w' ⟨rfl, h1, h2⟩
    go_wp2_with fail
    go_ret
    exact ⟨rfl, h1, h2⟩
  · have hn64 : ((len : Int) == 64) = false := by simp; omega
    have hrd := prow_any h i hi
    have hlF : Hid (∀ b, F b → b < w.heap.size) := h.lt
    have hsec := Lib.hid (h.ok.sec hi)
    have HA := Lib.hid hA
    have HXL := Lib.hid hxl
    have hne : xs.length ≠ 64 := by omega
    by_cases ha : S.ans true = 0
    · rw [repl_part hne ha]
      rw [ha] at hrd
      obtain ⟨er, her⟩ : ∃ er, er = (S.done true).ans true := ⟨_, rfl⟩
      have HER := Lib.hid her
      rw [← her]
      have hpi : (p : Int) ≤ 64 := by omega
      have hp64 : ¬ 64 = p := by omega
      have hmn : Hid (((xs.map bv)).length = Nat.min len (64 - p)) := by show _ = _; simp only [List.length_map]; rw [hxl]; exact (Nat.min_eq_left (by omega)).symm
      have hfit : Hid (p + (xs.map bv).length ≤ ((S.sec i).map bv).length) := by show _ ≤ _; have := hsec.out; simp; omega
      have HHI := Lib.hid (And.intro hi (And.intro hp hn4))
      clear h hA hp h0 hxl her ha hne h64 hi hn4
      go_enter Try.func85, Try.ntmps85
      go_wp2_with fail
      refine hrd.mono ?_
      rintro e w3 ⟨v, zz, rfl, hzz, hp3, hf3, hgood⟩
      subst hzz
      obtain ⟨g, rfl, hg, hrow⟩ := hgood rfl
      have hA3 := HA.out.keep hf3 (G := F) fun _ h => .inl h
      have H3 := Lib.hid (And.intro hp3 hf3)
      have hgF : Hid (¬ F g) := fun hb => by have := hlF.out g hb; omega
      have hG := Lib.hid hg
      have hsrc : Hid (∀ h0 : 0 < (xs.map bv).length, ∃ ad, A = some ad ∧ ∀ j v, (xs.map bv)[j]? = some v → w3.cell? (ad.add j) = some v) := fun h0 => has_src hA3.has h0
      clear hp3 hf3 hgood hrd hA3 hg
      go_wp2_with (refine wpList_copy_frm rfl _ _ _ _ (by exact rfl) 5 tyBs szU8 _ _ _ _ _ g p (by exact rfl) (by exact rfl) ((S.sec i).map bv) 5 hrow (xs.map bv) hmn.out hsrc.out hfit.out (one_bytes _) ?_; intro w4 hrow4 hf4; go_frame)
      have hpd4 := H3.out.1.keep hf4 fun b e hb => by subst e; exact hgF.out hb
      have hA4 : HasF F w4 (some ⟨g, 0, none⟩) 64 ((splice (S.sec i) p xs).map bv) := by
        have := has_of_row (l := splice (S.sec i) p xs) (n := 64) (by rw [← splice_map]; exact hrow4.out) (by rw [splice_len (by have := hfit.out; simpa using this)]; exact hsec.out)
        exact ⟨this.1, fun h0 => by obtain ⟨b, off, e, hb, hc⟩ := this.2 h0; injection e with e; injection e with e1 e2; subst e1; exact ⟨g, off, by rw [← e2], hb, hgF.out, hc⟩⟩
      have hwr := wany_true hpd4 i HHI.out.1 _ 64 _ hA4
      rw [← HER.out] at hwr
      have H4 := Lib.hid hf4
      clear hpd4 hA4 hrow4 hf4 hrow
      refine hwr.mono ?_
      rintro e w5 ⟨rfl, hp5, hf5⟩
      have H5 := Lib.hid (And.intro hp5 hf5)
      clear hp5 hf5 hwr
      go_wp2_with fail
      go_ret
      have s3 := H3.out.2.size
      have s4 := H4.out.size
      refine ⟨rfl, pwide H5.out.1 (by omega), (H3.out.2.trans H4.out fun b e => .inr (by subst e; exact hG.out)).trans H5.out.2 fun b hb => .inl hb⟩
    · rw [repl_err hne ha]
      obtain ⟨er, her⟩ : ∃ er, er = S.ans true := ⟨_, rfl⟩
      rw [← her] at hrd ha ⊢
      have hzn : (er == 0) = false := by simpa using ha
      clear h hA hp h0 hxl her ha hne h64 hi hn4
      go_enter Try.func85, Try.ntmps85
      go_wp2_with fail
      refine hrd.mono ?_
      rintro e w3 ⟨v, zz, rfl, hzz, hp3, hf3, hgood⟩
      subst hzz
      clear hgood
      go_wp2_with fail
      go_ret
      exact ⟨rfl, hp3.wide hf3, hf3⟩
end

section
open Go.RowKit

theorem wrc_err {f : Nat} {c : Nat × Nat × Nat} {cs : List (Nat × Nat × Nat)} {S : Dsk} {d : List UInt8} (h : (S.repl (f + c.1) c.2.1 (d.take c.2.2)).2 ≠ 0) : wrc f (c :: cs) S d = S.repl (f + c.1) c.2.1 (d.take c.2.2) := by simp [wrc, h]
theorem wrc_ok {f : Nat} {c : Nat × Nat × Nat} {cs : List (Nat × Nat × Nat)} {S : Dsk} {d : List UInt8} (h : (S.repl (f + c.1) c.2.1 (d.take c.2.2)).2 = 0) : wrc f (c :: cs) S d = wrc f cs (S.repl (f + c.1) c.2.1 (d.take c.2.2)).1 (d.drop c.2.2) := by simp [wrc, h]
theorem xwrite_err {S : Dsk} {n : Nat} {f c off : Int} {d : List UInt8} (h : xerr n f c off d.length ≠ 0) : S.xwrite n f c off d = (S, xerr n f c off d.length) := by simp [Dsk.xwrite, h]
theorem xwrite_fine {S : Dsk} {n f c off : Nat} {d : List UInt8} (h : xerr n f c off d.length = 0) : S.xwrite n f c off d = wrc f (ck off d.length) S d := by simp [Dsk.xwrite, h]
/-- How many bytes are written before the sector i. -/
def gone (off m i : Nat) : Nat := min m (64 * i - off)
theorem gone_start (off m : Nat) : gone off m (sp0 off m) = 0 := by unfold gone sp0; split <;> omega
theorem gone_step {off m i : Nat} (h0 : off / 64 ≤ i) (hm : 0 < m) (h1 : 64 * i < off + m) : gone off m (i + 1) = gone off m i + (pto off m i - pfrom off i) ∧ gone off m i + (pto off m i - pfrom off i) ≤ m := by unfold gone pto pfrom; omega
theorem HasF.pre {F : Nat → Prop} {w : World} {A : Option Addr} {m k : Nat} {l : List UInt8} (h : HasF F w A m (l.map bv)) (hk : k ≤ m) : HasF F w A k ((l.take k).map bv) :=
  ⟨by have := h.1; simp at this; simp; omega, fun h0 => by
    obtain ⟨b, off, e, hb, hn, hc⟩ := h.2 (by omega)
    refine ⟨b, off, e, hb, hn, fun j hj => ?_⟩
    rw [hc j (by simp at hj; simp; omega)]
    simp⟩
theorem HasF.suf {F : Nat → Prop} {w : World} {b off m k : Nat} {l : List UInt8} (h : HasF F w (some ⟨b, off, none⟩) m (l.map bv)) (hk : k ≤ m) : HasF F w (some ⟨b, off + k, none⟩) (m - k) ((l.drop k).map bv) :=
  ⟨by have := h.1; simp at this; simp; omega, fun h0 => by
    obtain ⟨b', off', e, hb, hn, hc⟩ := h.2 (by omega)
    injection e with e
    injection e with e1 e2 _
    subst e1 e2
    refine ⟨b, off + k, rfl, hb, hn, fun j hj => ?_⟩
    have := hc (k + j) (by simp at hj; simp; omega)
    rw [← Nat.add_assoc] at this
    rw [this]
    simp⟩
theorem hasF_nil {F : Nat → Prop} {w : World} {A : Option Addr} : HasF F w A 0 [] := ⟨rfl, fun h => absurd h (by omega)⟩

theorem pwide2 {w v v' x : World} {F : Nat → Prop} {a n : Nat} {S : Dsk} (h : PD x (fun b => (F b ∨ newF w v b) ∨ newF v' x b) a n S) (hs : w.heap.size ≤ v'.heap.size) : PD x (fun b => F b ∨ newF w x b) a n S :=
  h.more (fun b hb => hb.elim (fun hb => hb.elim .inl fun h1 => .inr ⟨h1.1, h.lt b (.inl (.inr h1))⟩) fun h => .inr ⟨by have := h.1; omega, h.2⟩) fun b hb => hb.elim (fun h1 => h.lt b (.inl (.inl h1))) fun h => h.2
theorem pwide3 {w w1 v v' x : World} {F : Nat → Prop} {a n : Nat} {S : Dsk} (h : PD x (fun b => (F b ∨ newF w1 v b) ∨ newF v' x b) a n S) (hs : w1.heap.size ≤ v'.heap.size) (hw : w.heap.size ≤ w1.heap.size) : PD x (fun b => F b ∨ newF w x b) a n S :=
  pwide (pwide2 h hs) hw

set_option maxRecDepth 20000 in
set_option maxHeartbeats 6400000 in
theorem xwrite_any {w : World} {F : Nat → Prop} {a n : Nat} {S : Dsk} (h : PD w F a n S) (f c off : Int) (A : Option Addr) (len cap : Nat) (d : List UInt8) (hf : f ≤ 9223372036854775807) (hoff : off ≤ 9223372036854775807) (hlen : len ≤ 1000000) (hlc : len ≤ cap) (hA : HasF F w A len (d.map bv)) :
    Calls Try.prog 40 #[.pointer (some ⟨a, 0, none⟩), .agg #[.int .i64 f, .int .i64 c], .int .i64 off, .slice A len cap] w fun e w' =>
      e = .returned (.int .i64 (S.xwrite n f c off d).2) ∧ PD w' (fun b => F b ∨ newF w w' b) a n (S.xwrite n f c off d).1 ∧ Frm F w w' := by
  have hdl : d.length = len := by simpa using hA.1
  have hb0 : Below w.heap.size w (w.alloc (.cells #[.int .i64 f, .int .i64 c] 32)) := (Below.refl _ _).alloc (Nat.le_refl _) _
  have hv := rangeError_any (h.below hb0) f c off (len : Int) hf hoff (by omega)
  have hl := heap_alloc_last w (.cells #[.int .i64 f, .int .i64 c] 32)
  have hzF : Hid (¬ F w.heap.size) := fun hb => Nat.lt_irrefl _ (h.lt _ hb)
  have H0 := Lib.hid (h.below hb0)
  have HB0 := Lib.hid hb0
  have HL := Lib.hid hl
  have HFl : Hid (∀ b, F b → b < w.heap.size) := h.lt
  have hn4 := Lib.hid h.ok.n4
  have HA := Lib.hid hA
  have HDL := Lib.hid hdl
  clear h hb0 hl hA
  by_cases hx : xerr n f c off len = 0
  · rw [hx] at hv
    obtain ⟨f, c, off, m, rfl, rfl, rfl, hml, hc1, hfc, hom⟩ := xerr_fine hx
    obtain rfl : m = len := by omega
    rw [xwrite_fine (by rw [hdl]; exact hx), hdl]
    have HC : Hid (1 ≤ c ∧ f + c ≤ n ∧ off + m ≤ 64 * c) := ⟨hc1, hfc, hom⟩
    have hmb : (m : Int) ≤ 262144 := by have := hn4.out; omega
    have hfb : (f : Int) ≤ 4096 := by have := hn4.out; omega
    have hsp := fun W => span_any off m W (by have := hn4.out; omega) (by have := hn4.out; omega)
    obtain ⟨i0, hi0⟩ : ∃ i0, i0 = sp0 off m := ⟨_, rfl⟩
    obtain ⟨i1, hi1⟩ : ∃ i1, i1 = sp1 off m := ⟨_, rfl⟩
    rw [← hi0, ← hi1] at hsp
    have hi1b : (i1 : Int) ≤ 4096 := by rw [hi1]; have := sp1_le hom; have := hn4.out; omega
    have HI0 := Lib.hid hi0
    have HI1 := Lib.hid hi1
    obtain ⟨R, hR⟩ : ∃ R, wrc f (ck off m) S d = R := ⟨_, rfl⟩
    rw [hR]
    have HR := Lib.hid hR
    have HLC := Lib.hid hlc
    clear hi0 hi1 hc1 hfc hom hf hoff hlen hx hR hml hdl hlc
    go_enter Try.func40, Try.ntmps40
    go_wp2_with (first
      | (go_at_call 81; refine hv.mono ?_; rintro e w1 ⟨rfl, hb1⟩
         have H1 := Lib.hid (H0.out.below hb1)
         have HB1 := Lib.hid (HB0.out.trans (hb1.mono HB0.out.size))
         have HA1 := Lib.hid (HA.out.keep (Frm.of_below (F := F) HB1.out) (G := F) fun _ h => .inl h)
         have z0 : w1.cell? ⟨w.heap.size, 0, none⟩ = some (.int .i64 f) := (hb1.cell (p := ⟨w.heap.size, 0, none⟩) (by simp)).trans (cell_of_row _ _ 0 _ _ _ HL.out)
         have HZ0 := Lib.hid z0
         clear hb1)
      | (go_at_call 82; refine (hsp _).mono ?_; rintro e w' ⟨rfl, rfl⟩))
    go_loopw [10, 13] (fun rv iv wr => ∃ (i lr cr : Nat) (Ar : Option Addr) (T : Dsk), i0 ≤ i ∧ i ≤ i1 ∧ iv = .int .i64 i ∧ rv = .slice Ar lr cr ∧ lr ≤ cr ∧ wr.cell? ⟨w.heap.size, 0, none⟩ = some (.int .i64 f) ∧ Hid (HasF F w1 Ar lr ((d.drop (gone off m i)).map bv) ∧ lr = m - gone off m i ∧ wrc f (cki off m i) T (d.drop (gone off m i)) = R ∧ PD wr (fun b => F b ∨ newF w1 wr b) a n T ∧ Frm F w1 wr)) (fun _ iv _ => i1 - (RowKit.intOf iv).toNat)
    case atStart =>
      refine ⟨i0, m, cap, A, S, Nat.le_refl _, by rw [HI0.out, HI1.out]; exact sp_le off m, rfl, rfl, HLC.out, z0, ?_⟩
      show _ ∧ _
      rw [HI0.out, gone_start, sp_start]
      exact ⟨HA1.out, rfl, HR.out, H1.out.wide (Frm.refl F w1), Frm.refl F w1⟩
    case round =>
      obtain ⟨i, lr, cr, Ar, T, hi0, hi1, rfl, rfl, hlcr, z3, HI⟩ := hrel
      have hib : (i : Int) ≤ 4096 := by omega
      by_cases hlt : i < i1
      · have hd : decide ((i : Int) < (i1 : Int)) = true := by simpa using hlt
        obtain ⟨hm1, ho1, ho2, hic⟩ := sp_bounds HC.out.2.2 (by rw [← HI0.out]; exact hi0) (by rw [← HI1.out]; exact hlt)
        have hfi : f + i < n := by have := HC.out.2.1; omega
        have hst := Lib.hid (cki_step ho1 hm1 ho2)
        have hgo := Lib.hid (gone_step ho1 hm1 ho2)
        obtain ⟨hp1, hp2⟩ := pfrom_le ho1 hm1 ho2
        have hprt := fun W => part_any i off m W (by have := HC.out; have := hn4.out; omega) (by have := HC.out; have := hn4.out; omega) (by omega)
        have hlr := HI.out.2.1
        obtain ⟨u, hu⟩ : ∃ u, u = pfrom off i := ⟨_, rfl⟩
        obtain ⟨t, ht⟩ : ∃ t, t = pto off m i := ⟨_, rfl⟩
        rw [← hu, ← ht] at hprt hst hp1 hgo
        rw [← ht] at hp2
        clear hu ht
        obtain ⟨k, hk⟩ : ∃ k, k = t - u := ⟨_, rfl⟩
        rw [← hk] at hst hgo
        have hklr : k ≤ lr := by have := hgo.out.2; omega
        have hk0 : 0 < k := by omega
        have huk : u + k ≤ 64 := by omega
        have hkt : (t : Int) - (u : Int) = (k : Int) := by omega
        have hkw : wrap64 ((t : Int) - (u : Int)) = (k : Int) := by unfold wrap64; omega
        have hki : IntKind.i64.wrap ((t : Int) - (u : Int)) = (k : Int) := by rw [hkt, IntKind.wrap_i64]; omega
        have hkj : IntKind.i64.wrap (k : Int) = (k : Int) := by rw [IntKind.wrap_i64]; omega
        have hfw : IntKind.i64.wrap ((f : Int) + (i : Int)) = (f : Int) + (i : Int) := by rw [IntKind.wrap_i64]; omega
        have hkc : (k : Int) ≤ (cr : Int) := by omega
        have hkn : (0 : Int) ≤ (k : Int) := by omega
        have hklen : (k : Int) ≤ (lr : Int) := by omega
        obtain ⟨b, o, rfl, hbw, hbF, _⟩ := HI.out.1.2 (by omega)
        have hc0 : ¬ cr = 0 := by omega
        have hpd := HI.out.2.2.2.1.below ((Below.refl wr.heap.size wr).drew)
        have hfr := HI.out.2.2.2.2
        have hfd := hfr.trans' (Frm.of_below (F := F) ((Below.refl wr.heap.size wr).drew))
        have hA1 := (HI.out.1.pre hklr).keep hfd (G := fun b => F b ∨ newF w1 wr b) fun b hb => hb.elim .inl fun h => .inr h.1
        have hrep := repl_any hpd (f + i) u hfi _ k cr ((d.drop (gone off m i)).take k) hA1 hk0 huk
        rw [show (((f + i : Nat) : Int)) = (f : Int) + (i : Int) by omega] at hrep
        obtain ⟨er, her⟩ : ∃ er, er = (T.repl (f + i) u ((d.drop (gone off m i)).take k)).2 := ⟨_, rfl⟩
        obtain ⟨T2, hT2⟩ : ∃ T2, T2 = (T.repl (f + i) u ((d.drop (gone off m i)).take k)).1 := ⟨_, rfl⟩
        rw [← her, ← hT2] at hrep
        have HER := Lib.hid (And.intro her hT2)
        clear her hT2
        have HBO := Lib.hid (And.intro hbw hbF)
        have HK := Lib.hid (And.intro hk (And.intro hp1 (And.intro hlr hklr)))
        have HFD := Lib.hid hfd
        have hzn : Hid (¬ (F w.heap.size ∨ newF w1 wr w.heap.size)) := fun hb => hb.elim hzF.out fun hb => by have := cell_lt HZ0.out; have := hb.1; omega
        clear hA1 hpd hfd hfr hbw hbF hk hp1 hlr
        go_wp2_with (go_at_call 83; refine (hprt _).mono ?_; rintro e w' ⟨rfl, rfl⟩)
        go_region_held3 (fun W => W.cell? ⟨w.heap.size, 0, none⟩ = some (.int .i64 f)) (first | exact s1 | go_keep)
          (first
            | (go_at_call 85
               refine hrep.mono ?_
               rintro e w5 ⟨rfl, hp5, hf5⟩
               have s1 := (hf5.cell (p := ⟨w.heap.size, 0, none⟩) (cell_lt (w := wr) z3) hzn.out).trans z3
               have HP := Lib.hid (And.intro hp5 (HFD.out.trans hf5 fun b hb => hb.elim .inl fun h => .inr h.1))
               clear hp5 hf5))
        by_cases he : er = 0
        · have hez : (er == 0) = true := by simpa using he
          subst he
          by_cases hck : cr = k
          · subst hck
            go_wp2
            go_roundw
            case rel =>
              refine ⟨i + 1, 0, 0, some ⟨b, o, none⟩, T2, by omega, by omega, by go_num, rfl, by omega, s1, ?_⟩
              show _ ∧ _
              rw [hgo.out.1, ← List.drop_drop]
              exact ⟨by rw [List.drop_of_length_le (l := d.drop (gone off m i)) (by have := HI.out.1.1; simp at this; simp; omega)]; exact hasF_nil, by have := HK.out.2.2.1; omega, by rw [← HI.out.2.2.1, hst.out, wrc_ok (by rw [← HER.out.1]), HER.out.2], pwide2 HP.out.1 HFD.out.size, HP.out.2⟩
            case measure => simp [RowKit.intOf]; omega
          · have hck' : ¬ cr = k := hck
            go_wp2
            go_roundw
            case rel =>
              refine ⟨i + 1, lr - k, cr - k, some ⟨b, o + k, none⟩, T2, by omega, by omega, by go_num, rfl, by omega, s1, ?_⟩
              show _ ∧ _
              rw [hgo.out.1, ← List.drop_drop]
              exact ⟨HI.out.1.suf HK.out.2.2.2, by have := HK.out.2.2.1; omega, by rw [← HI.out.2.2.1, hst.out, wrc_ok (by rw [← HER.out.1]), HER.out.2], pwide2 HP.out.1 HFD.out.size, HP.out.2⟩
            case measure => simp [RowKit.intOf]; omega
        · have hez : (er == 0) = false := by simpa using he
          have hRe : R = (T2, er) := by rw [← HI.out.2.2.1, hst.out, wrc_err (by rw [← HER.out.1]; exact he), HER.out.1, HER.out.2]
          have HRe := Lib.hid hRe
          clear hRe he
          go_wp2
          go_ret
          have hRe := HRe.out
          subst hRe
          exact ⟨rfl, pwide3 HP.out.1 HFD.out.size HB1.out.size, (Frm.of_below HB1.out).trans' HP.out.2⟩
      · have hd : decide ((i : Int) < (i1 : Int)) = false := by simpa using hlt
        have hRe : R = (T, 0) := by rw [← HI.out.2.2.1, sp_end HC.out.2.2 (by rw [← HI0.out]; exact hi0) (by rw [← HI1.out]; exact hlt)]; rfl
        have HRe := Lib.hid hRe
        clear hRe
        go_wp2
        go_ret
        have hRe := HRe.out
        subst hRe
        exact ⟨rfl, pwide HI.out.2.2.2.1 HB1.out.size, (Frm.of_below HB1.out).trans' HI.out.2.2.2.2⟩
  · rw [xwrite_err (by rw [hdl]; exact hx), hdl]
    obtain ⟨er, her⟩ : ∃ er, er = xerr n f c off len := ⟨_, rfl⟩
    rw [← her] at hv hx ⊢
    have hne : (er == 0) = false := by simpa using hx
    clear hx her hdl
    go_enter Try.func40, Try.ntmps40
    go_wp2_with (go_at_call 81; refine hv.mono ?_; rintro e w1 ⟨rfl, hb1⟩)
    go_ret
    have hb := HB0.out.trans (hb1.mono HB0.out.size)
    exact ⟨rfl, (H0.out.below hb1).wide (Frm.of_below hb), Frm.of_below hb⟩
end

section
open Go.RowKit

/-- At block b stands the program's log L, whose disk is at block a; z is the error that it holds. -/
def PLz (w : World) (b a : Nat) (L : Lg) (z : Int) : Prop := w.heap[b]? = some (.cells #[.pointer (some ⟨a, 0, none⟩), .int .i64 L.f, .int .i64 L.c, .int .u32 (nv L.e), .int .i64 (L.fin : Int), .int .i64 (L.cnt : Int), .int .i64 (L.syn : Int), .int .i64 z] 84 (0, 0))
/-- At block b stands the program's log L, whose disk is at block a. -/
def PL (w : World) (b a : Nat) (L : Lg) : Prop := ∃ z : Int, (z != 0) = L.bad ∧ PLz w b a L z
theorem PL.lt {w : World} {b a : Nat} {L : Lg} (h : PL w b a L) : b < w.heap.size := by
  obtain ⟨z, _, h⟩ := h
  exact lt_of_some h
theorem PL.keep {w w1 : World} {F : Nat → Prop} {b a : Nat} {L : Lg} (h : PL w b a L) (hf : Frm F w w1) (hn : ¬ F b) : PL w1 b a L := by
  obtain ⟨z, e, h⟩ := h
  exact ⟨z, e, hf.obj h hn⟩
theorem PL.below {w w1 : World} {b a : Nat} {L : Lg} (h : PL w b a L) (hb : Below w.heap.size w w1) : PL w1 b a L := by
  obtain ⟨z, e, h⟩ := h
  exact ⟨z, e, (hb.block b (lt_of_some h)).trans h⟩
/-- A log or none. -/
def PLo (w : World) (G : Nat → Prop) (lo a : Nat) (pv : Value) (o : Option Lg) : Prop := (o = none ∧ pv = .pointer none) ∨ ∃ L b, o = some L ∧ pv = .pointer (some ⟨b, 0, none⟩) ∧ PL w b a L ∧ lo ≤ b ∧ ¬ G b
/-- What the program's Open leaves. -/
def POpenP (w : World) (F : Nat → Prop) (a n : Nat) (R : WOp) (r : Ending) (w' : World) : Prop :=
  ∃ (G : Nat → Prop) (pv lv : Value), r = .returned (.tuple #[pv, lv, .int .i64 R.err]) ∧ PD w' G a n R.S ∧ Frm F w w' ∧ (∀ b, G b → F b ∨ w.heap.size ≤ b) ∧ PLo w' G w.heap.size a pv R.L ∧ NewR w.heap.size w'.heap.size w' lv R.ps
theorem POpenP.no {w w' : World} {F G : Nat → Prop} {a n : Nat} {R : WOp} {T : Dsk} {x : Int} (hR : R = ⟨T, x, none, []⟩) (h : PD w' G a n T) (hf : Frm F w w') (hG : ∀ b, G b → F b ∨ w.heap.size ≤ b) :
    POpenP w F a n R (.returned (.tuple #[.pointer none, .slice none 0 0, .int .i64 x])) w' := by
  subst hR
  exact ⟨G, _, _, rfl, h, hf, hG, .inl ⟨rfl, rfl⟩, NewR.nil _ _ _⟩
end

end Go.Proofs.Ytbcfjkfkkklgbaa
