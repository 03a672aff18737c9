/-
  The program's Parse of package fields.
-/
import Derived.Test.YtmfoegpdjajicaaFeA
import Derived.Test.YtmfoegpdjajicaaFeB
import Derived.Test.YtmfoegpdjajicaaFeM
import Derived.RangeFuncLeaves
import Derived.Maps.OwnIn
namespace Go.Proofs.Ytmfoegpdjajicaa
open Go.RowKit Go.Shelf
attribute [local go_sem] Oper.semAt_some

theorem cell_two_new (w : World) (n v : ByteArray) (t : TypeId) : ∀ j u, [Value.string n, .string v][j]? = some u → (w.alloc (.cells #[.string n, .string v] t)).cell? ((⟨w.heap.size, 0, none⟩ : Addr).add j) = some u := by
  intro j q hj
  match j, hj with
  | 0, hj => simp at hj; subst hj; simp [Addr.add, World.cell?_alloc_at _ _ _ _ rfl]
  | 1, hj => simp at hj; subst hj; simp [Addr.add, World.cell?_alloc_at _ _ _ _ rfl]
  | j + 2, hj => simp at hj

/-- Where the rounds stand, and how they are left. -/
def PI (w : World) (n0 : Nat) (pre : List (List UInt8 × Bool)) (C : Nat → Prop) (W : World) : Prop :=
  ∃ acc v, PF w n0 acc v (.slice none 0 0) 0 W ∧ C = ownP n0 v ∧ AtL pre acc ∧ acc.length ≤ 100
def PX (w : World) (n0 : Nat) (R : List Fv × Int) (c : Code) (C : Nat → Prop) (W : World) : Prop :=
  (c = .ret ∧ ∃ acc v re, PF w n0 acc v (.slice none 0 0) re W ∧ C = ownP n0 v ∧ R = ([], re)) ∨
  (c = .exit 0 ∧ ∃ acc v, PF w n0 acc v (.slice none 0 0) 0 W ∧ C = ownP n0 v ∧ R = (acc, 0))
theorem PI.std {w : World} {n0 B : Nat} (hB : n0 + 3 ≤ B) : Std B (PI w n0) := by
  rintro s C W W' row ⟨acc, v, h, rfl, h2⟩ hg hr
  exact ⟨acc, v, h.grow hg (fun r e => ⟨by have := (hr r e).1; omega, (hr r e).2⟩), rfl, h2⟩
theorem PX.std {w : World} {n0 B : Nat} {R : List Fv × Int} {c : Code} (hB : n0 + 3 ≤ B) : Std B (fun (_ : List (List UInt8 × Bool)) C W => PX w n0 R c C W) := by
  rintro s C W W' row (⟨hc, acc, v, re, h, rfl, h2⟩ | ⟨hc, acc, v, h, rfl, h2⟩) hg hr
  · exact .inl ⟨hc, acc, v, re, h.grow hg (fun r e => ⟨by have := (hr r e).1; omega, (hr r e).2⟩), rfl, h2⟩
  · exact .inr ⟨hc, acc, v, h.grow hg (fun r e => ⟨by have := (hr r e).1; omega, (hr r e).2⟩), rfl, h2⟩

theorem res_two {W : World} {n0 : Nat} {rv : Value} {re : Int} {tmps : Array Value} (hp : tmps.getD 2 undef = .pointer (some ⟨n0, 0, none⟩)) (he : tmps.getD 3 undef = .pointer (some ⟨n0 + 1, 0, none⟩)) (b1 : Boxed W n0 25 rv) (b2 : Boxed W (n0 + 1) 26 (.int .i64 re)) :
    (results Try.f10 tmps).run Try.prog W = .ok (.tuple #[rv, .int .i64 re]) W := by
  have hp' : tmps[2]?.getD undef = .pointer (some ⟨n0, 0, none⟩) := by simpa using hp
  have he' : tmps[3]?.getD undef = .pointer (some ⟨n0 + 1, 0, none⟩) := by simpa using he
  have k1 := b1.cell
  have k2 := b2.cell
  simp [results, Try.f10, go_sem, hp', he', k1, k2]
theorem fds_pf {w W : World} {n0 : Nat} {acc : List Fv} {v rv : Value} {re : Int} {R : List Fv × Int} (h : PF w n0 acc v rv re W) (hR : (rv = .slice none 0 0 ∧ R = ([], re)) ∨ (rv = v ∧ re = 0 ∧ R = (acc, 0))) : FdsPost R w (.returned (.tuple #[rv, .int .i64 re])) W := by
  have hb := h.bel
  have e := h.n0_
  subst e
  rcases hR with ⟨rfl, rfl⟩ | ⟨rfl, rfl, rfl⟩
  · exact fds_nil rfl hb
  · exact fds_own rfl h.row hb
theorem parse_end {w W : World} {n0 D : Nat} {acc : List Fv} {v rv : Value} {re : Int} {R : List Fv × Int} {tmps : Array Value} (h : PF w n0 acc v rv re W) (hD : n0 + 3 ≤ D) (hnD : ¬ ownP n0 v D) (hK : W.heap[D]? = some (.deferred (some [])))
    (hp : tmps.getD 2 undef = .pointer (some ⟨n0, 0, none⟩)) (he : tmps.getD 3 undef = .pointer (some ⟨n0 + 1, 0, none⟩)) (hR : (rv = .slice none 0 0 ∧ R = ([], re)) ∨ (rv = v ∧ re = 0 ∧ R = (acc, 0))) :
    bodyPostM Fence.wide 0 Try.prog Try.f10 (FdsPost R w) .ret { tmps := tmps, defers := [{ target := .collected D, args := #[] }] } W := by
  have h' := h.grow (grownBy_putObj' W D (.deferred none)) (fun r e => by cases e; exact ⟨hD, hnD⟩)
  refine ⟨by simp, .inl ⟨_, _, rfl, run_takeDeferred hK, ?_⟩⟩
  exact ⟨_, res_two hp he h'.res h'.err, fds_pf h' hR⟩

set_option maxRecDepth 100000 in
set_option maxHeartbeats 4000000 in
theorem fParse_any (A : Option Addr) (cap : Nat) (l : List UInt8) (w : World) (hl : l.length ≤ 1000000000) (hH : Has w w.heap.size A l.length (l.map bv)) :
    Calls Try.prog 10 #[.slice A l.length cap] w (FdsPost (fpar l) w) := by
  have h0 := PF.start w
  rw [fpar_lines]
  refine (callsIn_wide (n := 0)).1 ?_
  refine callsIn_of_wp_marks Try.func10 rfl trivial ?_ rfl
  simp only [Try.ntmps10, List.size_toArray, List.length_cons, List.length_nil, Nat.reduceAdd, Nat.reduceSub, Array.replicate_succ, Array.replicate_zero, List.push_toArray, List.append_toArray, List.nil_append, List.cons_append]
  by_cases hb : 16384 < l.length
  · rw [if_pos hb]
    have hd : decide ((16384 : Int) < (l.length : Int)) = true := decide_eq_true (by omega)
    obtain ⟨w1, hw1⟩ : ∃ x, x = w.alloc (.cells #[.slice none 0 0] 25) := ⟨_, rfl⟩
    have z1 : w1.heap.size = w.heap.size + 1 := by rw [hw1]; simp
    have r1 : Boxed w1 w.heap.size 25 (.slice none 0 0) := by rw [hw1]; exact Boxed.new _ _ _
    have r1' := r1.alloc (.cells #[.int .i64 0] 26)
    have r2 := Boxed.new w1 26 (.int .i64 0)
    rw [z1] at r2
    have hb2 : Below w.heap.size w (w1.alloc (.cells #[.int .i64 0] 26)) := by rw [hw1]; exact ((Below.refl _ w).alloc (Nat.le_refl _) _).alloc (by simp) _
    gi_wp2
    refine wpIn_wide.2 (wp_scope_straight ((wpIn_wide (n := 0)).1 ?_))
    rw [← hw1]
    generalize w1.alloc (.cells #[.int .i64 0] 26) = W at *
    have k0 := r1'.cell
    have f0 := r1'.frozen
    have k1 := fun u => (r2.other (show w.heap.size + 1 ≠ w.heap.size by omega) u).cell
    have f1 := fun u => (r2.other (show w.heap.size + 1 ≠ w.heap.size by omega) u).frozen
    clear h0 hw1 z1 r1
    gi_wp2
    exact ⟨_, res_two rfl rfl ((r1'.set (.slice none 0 0)).other (by omega) _) ((r2.other (by omega) _).set (.int .i64 3)), fds_nil rfl ((hb2.setCell (p := ⟨w.heap.size, 0, none⟩) (Nat.le_refl _) _).setCell (p := ⟨w.heap.size + 1, 0, none⟩) (Nat.le_succ _) _)⟩
  · rw [if_neg hb]
    have hd : decide ((16384 : Int) < (l.length : Int)) = false := decide_eq_false (by omega)
    have cln := fun W => lines_any (bs l) W
    obtain ⟨n0, hn0⟩ : ∃ x, x = w.heap.size := ⟨_, rfl⟩
    have hconv : ∀ W, Below w.heap.size w W → (convert 22 9 (.slice A l.length cap)).run Try.prog W = .ok (.string (bs l)) W := fun W hW => str_has W A l.length cap _ l (hH.keep fun p hp => hW.cell hp)
    have hcv := hconv _ h0.bel
    gi_wp2
    refine wpIn_wide.2 (wp_scope_straight ((wpIn_wide (n := 0)).1 ?_))
    gi_wp2
    refine wpIn_label ?_
    gi_wp2_with fail
    refine ⟨trivial, rfl, ?_⟩
    refine (callsIn_wide.2 (cln _)).mono ?_
    rintro e w1 ⟨rfl, rfl⟩
    gi_wp2_with fail
    have b3 := Boxed.new (((w.alloc (.cells #[.slice none 0 0] 25)).alloc (.cells #[.int .i64 0] 26)).alloc (.cells #[.slice none 0 0] 25)) 9 (.string (bs l))
    have hp0 := h0.below ((Below.refl _ _).alloc (Nat.le_refl _) (.cells #[.string (bs l)] 9))
    have hz : (((w.alloc (.cells #[.slice none 0 0] 25)).alloc (.cells #[.int .i64 0] 26)).alloc (.cells #[.slice none 0 0] 25)).heap.size = n0 + 3 := by rw [hn0]; simp
    have hz4 : ((((w.alloc (.cells #[.slice none 0 0] 25)).alloc (.cells #[.int .i64 0] 26)).alloc (.cells #[.slice none 0 0] 25)).alloc (.cells #[.string (bs l)] 9)).heap.size = n0 + 4 := by rw [World.size_alloc, hz]
    rw [hz] at b3
    rw [← hn0] at hp0 ⊢
    generalize (((w.alloc (.cells #[.slice none 0 0] 25)).alloc (.cells #[.int .i64 0] 26)).alloc (.cells #[.slice none 0 0] 25)).alloc (.cells #[.string (bs l)] 9) = W0 at *
    clear h0 hcv hconv hH cln hz hd
    simp only [Nat.add_assoc, Nat.reduceAdd]
    obtain ⟨i9, hi9, hz0, hz1, hz2⟩ := info_parts infoFd
    have hsl : (bs l).size ≤ 1000000000 := by rw [bs_size]; exact hl
    have HN0 := Lib.hid hn0
    clear hn0
    refine wpIn_range_D (gf := 37) (lb := #[.pointer (some ⟨n0 + 3, 0, none⟩)]) rfl (enters_of Try.func37 (by kernel_rfl) rfl)
      (L := linesL l) (Kr := fun _ => False) (fun W1 hg => by have := lines_it (n0 + 3) (bs l) hsl W1 ((hg.block _ b3.lt (by simp)).trans b3); rwa [ls_bs] at this) rfl
      (PI w n0) (fun c _ C W => PX w n0 (goL (linesL l) []) c C W) (ownP n0 (.slice none 0 0))
      (PI.std (by omega)) (fun c => PX.std (by omega)) (fun s C W h => by obtain ⟨acc, v, h, rfl, _⟩ := h; exact h.bound) (fun k h => h.elim)
      ⟨[], _, hp0, rfl, AtL.start, by simp⟩
      (fun x b => { tmps := #[.slice A l.length cap, undef, .pointer (some ⟨n0, 0, none⟩), .pointer (some ⟨n0 + 1, 0, none⟩), .pointer (some ⟨n0 + 2, 0, none⟩), .string x, .bool b, undef, undef, .slice A l.length cap, .int .i64 (l.length : Nat), .bool false, .slice A l.length cap, .string (bs l), .func (.func 37) #[] #[.pointer (some ⟨n0 + 3, 0, none⟩)], .string x, .bool b, undef, undef, undef, undef, undef, undef, undef, undef, undef, undef, undef, undef, undef, undef, undef, undef, undef, undef, undef, undef, undef, undef], defers := [] }) ?assign ?body ?done ?stop
    case assign =>
      intro l x b W K hK
      gi_wp2
      exact hK
    case done =>
      rintro D C W hD hnD ⟨acc, v, hpf, rfl, hat, ha⟩ hK
      have HR := Lib.hid hat.done
      obtain ⟨A1, c1, rfl, hh, hc1, hc0⟩ := HasFd.of_own hpf.row
      have k2 := hpf.box.cell
      have k0 := hpf.res.cell
      have f0 := hpf.res.frozen
      have k1 := fun u => (hpf.err.other (show n0 + 1 ≠ n0 by omega) u).cell
      have f1 := fun u => (hpf.err.other (show n0 + 1 ≠ n0 by omega) u).frozen
      clear hh
      gi_wp2
      obtain ⟨p1, p2⟩ := hpf.set (.slice A1 acc.length c1) 0
      have hz := (Array.getElem?_eq_some_iff.1 hK).1
      exact parse_end p1 (by omega) hnD ((p2.same D hz hnD).trans hK) rfl rfl (.inr ⟨rfl, rfl, HR.out⟩)
    case stop =>
      rintro D c pre C W hD hnD hpre hx hK
      rcases hx with ⟨rfl, acc, v, re, hpf, rfl, hR⟩ | ⟨rfl, acc, v, hpf, rfl, hR⟩
      · have HR := Lib.hid hR
        clear hR
        gi_wp2
        exact parse_end hpf (by omega) hnD hK rfl rfl (.inl ⟨rfl, HR.out⟩)
      · have HR := Lib.hid hR
        clear hR
        obtain ⟨A1, c1, rfl, hh, hc1, hc0⟩ := HasFd.of_own hpf.row
        have k2 := hpf.box.cell
        have k0 := hpf.res.cell
        have f0 := hpf.res.frozen
        have k1 := fun u => (hpf.err.other (show n0 + 1 ≠ n0 by omega) u).cell
        have f1 := fun u => (hpf.err.other (show n0 + 1 ≠ n0 by omega) u).frozen
        clear hh
        gi_wp2
        obtain ⟨p1, p2⟩ := hpf.set (.slice A1 acc.length c1) 0
        have hz := (Array.getElem?_eq_some_iff.1 hK).1
        exact parse_end p1 (by omega) hnD ((p2.same D hz hnD).trans hK) rfl rfl (.inr ⟨rfl, rfl, HR.out⟩)
    case body =>
      rintro lp pre x b C W hlp hnl hrec hxs hpre ⟨acc, v, hpf, rfl, hat, ha⟩
      obtain ⟨A1, c1, rfl, hh, hc1, hc0⟩ := HasFd.of_own hpf.row
      obtain ⟨rr, hrr⟩ := hat.stop hpre
      have k2 := hpf.box.cell
      have f2 := hpf.box.frozen
      have k0 := hpf.res.cell
      have f0 := hpf.res.frozen
      have k1 := fun u => (hpf.err.other (show n0 + 1 ≠ n0 by omega) u).cell
      have f1 := fun u => (hpf.err.other (show n0 + 1 ≠ n0 by omega) u).frozen
      have hq := nil_toList x
      clear hh
      cases b with
      | false =>
        have HR := Lib.hid (hrr.trans (goL_trunc _ _ _))
        clear hrr hq
        gi_wp2
        obtain ⟨p1, p2⟩ := hpf.set (.slice none 0 0) 5
        exact ⟨_, p2, .inl ⟨rfl, acc, _, 5, p1, rfl, HR.out⟩⟩
      | true =>
        by_cases hx0 : x.size = 0
        · have hxn : ls x = [] := List.eq_nil_of_length_eq_zero (by rw [ls_length]; exact hx0)
          rw [hxn] at hrr
          have HR := Lib.hid (hrr.trans (goL_end _ _))
          rw [decide_eq_true hx0] at hq
          clear hrr hxn hx0
          gi_wp2
          exact ⟨_, Grow.refl _ _, .inr ⟨rfl, acc, _, hpf, rfl, HR.out⟩⟩
        · have hxn : ls x ≠ [] := fun e => hx0 (by rw [← ls_length, e]; rfl)
          rw [decide_eq_false hx0] at hq
          by_cases h100 : acc.length = 100
          · have HR := Lib.hid (hrr.trans (goL_limit hxn _ h100))
            have hd : ((acc.length : Int) == (100 : Int)) = true := by rw [h100]; rfl
            clear hrr hxn hx0 h100
            gi_wp2
            obtain ⟨p1, p2⟩ := hpf.set (.slice none 0 0) 3
            exact ⟨_, p2, .inl ⟨rfl, acc, _, 3, p1, rfl, HR.out⟩⟩
          · have hd : ((acc.length : Int) == (100 : Int)) = false := by rw [beq_eq_false_iff_ne]; omega
            have cp := fun W => parseLine_any x hxs W
            unfold FlPost flV at cp
            cases hy : fieldL (ls x) with
            | none =>
              have HR := Lib.hid (hrr.trans (goL_syntax hxn _ h100 hy))
              rw [hy] at cp
              simp only [Option.getD_none, Option.isSome_none] at cp
              clear hrr hxn hx0 h100 hy
              gi_wp2_with fail
              refine ⟨trivial, rfl, ?_⟩
              refine (CallsIn.inRound lp (callsIn_wide.2 (cp _))).mono ?_
              rintro e w1 ⟨rfl, hb1⟩
              have hpf1 := hpf.below hb1
              have hr1 : RowFd (w1.alloc (.cells #[.string ⟨#[]⟩, .string ⟨#[]⟩] 44)) w1.heap.size ⟨#[]⟩ ⟨#[]⟩ := row_new w1 _ _
              have hpf2 := hpf1.below ((Below.refl w1.heap.size w1).alloc (Nat.le_refl _) (.cells #[.string ⟨#[]⟩, .string ⟨#[]⟩] 44))
              have hza := World.size_alloc w1 (.cells #[.string ⟨#[]⟩, .string ⟨#[]⟩] 44)
              have hg2 : Grow (ownP n0 (.slice A1 acc.length c1)) (ownP n0 (.slice A1 acc.length c1)) W (w1.alloc (.cells #[.string ⟨#[]⟩, .string ⟨#[]⟩] 44)) :=
                ⟨by have := hb1.size; omega, fun k hk _ => (Below.heap_alloc _ _ _ (by have := hb1.size; omega)).trans (hb1.block k hk), fun _ h => .inl h⟩
              have hW1 := hb1.size
              have hb3 := hpf.big
              gi_wp2_with (refine wpListIn_store_fd rfl rfl _ _ rfl w1.heap.size (by exact rfl) (bs []) (bs []) (by exact rfl) _ _ hr1 ?_; intro W9 hr9 hG9; have hpf9 := hpf2.grow hG9 (fun r e => by cases e; exact ⟨by omega, fun hc => by have := hpf1.bound _ hc; omega⟩); have hg9 : Grow (ownP n0 (.slice A1 acc.length c1)) (ownP n0 (.slice A1 acc.length c1)) W W9 := ⟨by have := hG9.size; omega, fun k hk hc => (hG9.block k (by omega) (fun e => by cases e; omega)).trans (hg2.same k hk hc), fun _ h => .inl h⟩; have k2 := hpf9.box.cell; have f2 := hpf9.box.frozen; have k0 := hpf9.res.cell; have f0 := hpf9.res.frozen; have k1 := fun u => (hpf9.err.other (show n0 + 1 ≠ n0 by omega) u).cell; have f1 := fun u => (hpf9.err.other (show n0 + 1 ≠ n0 by omega) u).frozen)
              obtain ⟨p1, p2⟩ := hpf9.set (.slice none 0 0) 4
              exact ⟨_, hg9.trans p2, .inl ⟨rfl, acc, _, 4, p1, rfl, HR.out⟩⟩
            | some y =>
              have HR := Lib.hid (hat.step hxn h100 hy)
              rw [hy] at cp
              simp only [Option.getD_some, Option.isSome_some] at cp
              clear hrr hxn hx0 hy
              gi_wp2_with fail
              refine ⟨trivial, rfl, ?_⟩
              refine (CallsIn.inRound lp (callsIn_wide.2 (cp _))).mono ?_
              rintro e w1 ⟨rfl, hb1⟩
              clear cp hd
              have hpf1 := hpf.below hb1
              have hr1 : RowFd (w1.alloc (.cells #[.string ⟨#[]⟩, .string ⟨#[]⟩] 44)) w1.heap.size ⟨#[]⟩ ⟨#[]⟩ := row_new w1 _ _
              have hpf2 := hpf1.below ((Below.refl w1.heap.size w1).alloc (Nat.le_refl _) (.cells #[.string ⟨#[]⟩, .string ⟨#[]⟩] 44))
              have hza := World.size_alloc w1 (.cells #[.string ⟨#[]⟩, .string ⟨#[]⟩] 44)
              have hg2 : Grow (ownP n0 (.slice A1 acc.length c1)) (ownP n0 (.slice A1 acc.length c1)) W (w1.alloc (.cells #[.string ⟨#[]⟩, .string ⟨#[]⟩] 44)) :=
                ⟨by have := hb1.size; omega, fun k hk _ => (Below.heap_alloc _ _ _ (by have := hb1.size; omega)).trans (hb1.block k hk), fun _ h => .inl h⟩
              have hW1 := hb1.size
              have hb3 := hpf.big
              clear k0 f0 k1 f1 k2 f2
              gi_wp2_with (first | (refine wpListIn_store_fd rfl rfl _ _ rfl w1.heap.size (by exact rfl) (bs y.name) (bs y.value) (by exact rfl) _ _ hr1 ?_; intro W9 hr9 hG9; have hpf9 := hpf2.grow hG9 (fun r e => by cases e; exact ⟨by omega, fun hc => by have := hpf1.bound _ hc; omega⟩); have hg9 : Grow (ownP n0 (.slice A1 acc.length c1)) (ownP n0 (.slice A1 acc.length c1)) W W9 := ⟨by have := hG9.size; omega, fun k hk hc => (hG9.block k (by omega) (fun e => by cases e; omega)).trans (hg2.same k hk hc), fun _ h => .inl h⟩; have k2 := hpf9.box.cell; have f2 := hpf9.box.frozen; have j0 := hr9.cells.1; have j1 := hr9.cells.2; have hx9 := hpf9.big; have hr5 := hpf9.row) | (gi_at_builtin; refine wpListIn_append_own_at _ rfl _ _ 25 rfl (n0 + 3) 44 i9 (.agg fz) 2 32 tyFds hi9 hz0 hz1 hz2 rfl (by decide) _ _ _ rfl (hr5.alloc _) ⟨W9.heap.size, 0, none⟩ 1 1 [.string (bs y.name), .string (bs y.value)] rfl rfl (cell_two_new _ _ _ _) (by simp [Value.oneCell']) (by unfold maxLen; omega) (by omega) (by simp; omega) ?_; intro v' w5 hown' hgrow _ hat; obtain ⟨g', cap', rfl⟩ := ownsRow_succ hown'; obtain ⟨q5, p1, p2⟩ := hpf9.app hown' hgrow hat; have k5 := q5.cell; have f5 := q5.frozen))
              refine ⟨_, hg9.trans p2, _, _, p1, rfl, ?_, by rw [List.length_append, List.length_singleton]; omega⟩
              rw [ls_bs, ls_bs]
              exact HR.out

end Go.Proofs.Ytmfoegpdjajicaa
