/-
  The program's First of package fields.
-/
import Derived.Test.YtmfoegpdjajicaaFeE
import Derived.RangeFuncLeaves
namespace Go.Proofs.Ytmfoegpdjajicaa
open Go.RowKit Go.Shelf
attribute [local go_sem] Oper.semAt_some

/-- The results' cells of First. -/
structure FR (w : World) (n0 : Nat) (x : ByteArray) (q : Bool) (W : World) : Prop where
  res : Boxed W n0 9 (.string x)
  ok : Boxed W (n0 + 1) 4 (.bool q)
  bel : Below n0 w W
  n0_ : n0 = w.heap.size
def ownF (n0 : Nat) : Nat → Prop := fun k => k = n0 ∨ k = n0 + 1
section
variable {w W W' : World} {n0 : Nat} {x : ByteArray} {q : Bool}
theorem FR.grow {row : Option Nat} (h : FR w n0 x q W) (hg : W.grownBy W' row) (hr : ∀ r, row = some r → n0 + 2 ≤ r) : FR w n0 x q W' := by
  have ne : ∀ k, k < n0 + 2 → some k ≠ row := fun k hk e => by have := hr k e.symm; omega
  exact ⟨h.res.kept hg (ne _ (by omega)), h.ok.kept hg (ne _ (by omega)), h.bel.grown hg (by rw [h.n0_]; exact h.bel.size) (fun k e => by have := hr k e; omega), h.n0_⟩
theorem FR.bel_w (h : FR w n0 x q W) : Below w.heap.size w W := by
  have e := h.n0_
  subst e
  exact h.bel
theorem FR.start (w : World) : FR w w.heap.size ⟨#[]⟩ false ((w.alloc (.cells #[.string ⟨#[]⟩] 9)).alloc (.cells #[.bool false] 4)) := by
  obtain ⟨w1, h1⟩ : ∃ x, x = w.alloc (.cells #[.string ⟨#[]⟩] 9) := ⟨_, rfl⟩
  rw [← h1]
  have z1 : w1.heap.size = w.heap.size + 1 := by rw [h1]; simp
  have r1 : Boxed w1 w.heap.size 9 (.string ⟨#[]⟩) := by rw [h1]; exact Boxed.new _ _ _
  have r2 := Boxed.new w1 4 (.bool false)
  rw [z1] at r2
  refine ⟨r1.alloc _, r2, ?_, rfl⟩
  rw [h1]
  exact ((Below.refl _ w).alloc (Nat.le_refl _) _).alloc (by simp) _
theorem FR.set (h : FR w n0 x q W) (x' : ByteArray) (q' : Bool) : FR w n0 x' q' ((W.setCell ⟨n0, 0, none⟩ (.string x')).setCell ⟨n0 + 1, 0, none⟩ (.bool q')) ∧ Grow (ownF n0) (ownF n0) W ((W.setCell ⟨n0, 0, none⟩ (.string x')).setCell ⟨n0 + 1, 0, none⟩ (.bool q')) := by
  have g1 := grownBy_setCell' W n0 (.string x')
  have g2 := grownBy_setCell' (W.setCell ⟨n0, 0, none⟩ (.string x')) (n0 + 1) (.bool q')
  refine ⟨⟨(h.res.set _).other (by omega) _, (h.ok.other (by omega) _).set _, ?_, h.n0_⟩, ⟨Nat.le_trans g1.size g2.size, fun k hk hc => ?_, fun _ h => .inl h⟩⟩
  · exact (h.bel.setCell (p := ⟨n0, 0, none⟩) (Nat.le_refl _) _).setCell (p := ⟨n0 + 1, 0, none⟩) (Nat.le_succ _) _
  · have h1 : k ≠ n0 := fun e => hc (.inl e)
    have h2 : k ≠ n0 + 1 := fun e => hc (.inr e)
    exact (Below.heap_setCell _ _ _ k h2).trans (Below.heap_setCell _ _ _ k h1)
end
theorem res_fr {W : World} {n0 : Nat} {x : ByteArray} {q : Bool} {tmps : Array Value} (hp : tmps.getD 4 undef = .pointer (some ⟨n0, 0, none⟩)) (he : tmps.getD 5 undef = .pointer (some ⟨n0 + 1, 0, none⟩)) (b1 : Boxed W n0 9 (.string x)) (b2 : Boxed W (n0 + 1) 4 (.bool q)) :
    (results Try.f17 tmps).run Try.prog W = .ok (.tuple #[.string x, .bool q]) W := by
  have hp' : tmps[4]?.getD undef = .pointer (some ⟨n0, 0, none⟩) := by simpa using hp
  have he' : tmps[5]?.getD undef = .pointer (some ⟨n0 + 1, 0, none⟩) := by simpa using he
  have k1 := b1.cell
  have k2 := b2.cell
  simp [results, Try.f17, go_sem, hp', he', k1, k2]
/-- What First answers. -/
def FirstPost (L : List (List UInt8)) (w : World) (e : Ending) (w' : World) : Prop :=
  e = .returned (.tuple #[.string (bs (L.headD [])), .bool (!L.isEmpty)]) ∧ Below w.heap.size w w'
theorem first_end {w W : World} {n0 D : Nat} {x : ByteArray} {q : Bool} {L : List (List UInt8)} {tmps : Array Value} (h : FR w n0 x q W) (hD : n0 + 2 ≤ D) (hK : W.heap[D]? = some (.deferred (some [])))
    (hp : tmps.getD 4 undef = .pointer (some ⟨n0, 0, none⟩)) (he : tmps.getD 5 undef = .pointer (some ⟨n0 + 1, 0, none⟩)) (hR : x = bs (L.headD []) ∧ q = !L.isEmpty) :
    bodyPostM Fence.wide 0 Try.prog Try.f17 (FirstPost L w) .ret { tmps := tmps, defers := [{ target := .collected D, args := #[] }] } W := by
  have h' := h.grow (grownBy_putObj' W D (.deferred none)) (fun r e => by cases e; exact hD)
  have e := h.n0_
  subst e
  obtain ⟨rfl, rfl⟩ := hR
  refine ⟨by simp, .inl ⟨_, _, rfl, run_takeDeferred hK, ?_⟩⟩
  exact ⟨_, res_fr hp he h'.res h'.ok, rfl, h'.bel⟩
/-- Where the rounds stand, and how they are left. -/
def FI (w : World) (n0 : Nat) (pre : List (List UInt8)) (C : Nat → Prop) (W : World) : Prop := pre = [] ∧ FR w n0 ⟨#[]⟩ false W ∧ C = ownF n0
def FX (w : World) (n0 : Nat) (L : List (List UInt8)) (c : Code) (C : Nat → Prop) (W : World) : Prop := c = .ret ∧ C = ownF n0 ∧ ∃ x r, L = ls x :: r ∧ FR w n0 x true W
theorem FI.std {w : World} {n0 B : Nat} (hB : n0 + 2 ≤ B) : Std B (FI w n0) := by
  rintro s C W W' row ⟨h1, h, rfl⟩ hg hr
  exact ⟨h1, h.grow hg (fun r e => by have := (hr r e).1; omega), rfl⟩
theorem FX.std {w : World} {n0 B : Nat} {L : List (List UInt8)} {c : Code} (hB : n0 + 2 ≤ B) : Std B (fun (_ : List (List UInt8)) C W => FX w n0 L c C W) := by
  rintro s C W W' row ⟨h1, rfl, x, r, h2, h⟩ hg hr
  exact ⟨h1, rfl, x, r, h2, h.grow hg (fun r e => by have := (hr r e).1; omega)⟩

set_option maxRecDepth 100000 in
set_option maxHeartbeats 4000000 in
theorem fFirst_any (A : Option Addr) (c : Nat) (l : List Fv) (s : ByteArray) (w : World) (hH : HasFd w w.heap.size A l.length l) (hl : l.length ≤ 1000000) (hs : s.size ≤ 1000000000) (hz : ∀ x ∈ l, x.name.length ≤ 1000000000 ∧ x.value.length ≤ 1000000000) :
    Calls Try.prog 17 #[.slice A l.length c, .string s] w (FirstPost (fall l (ls s)) w) := by
  have h0 := FR.start w
  have cv := fun W => values_any A l.length c s W
  have hit := fun B W0 h1 h2 h3 => values_it B A c l s hs hl hz W0 h1 h2 h3
  refine (callsIn_wide (n := 0)).1 ?_
  refine callsIn_of_wp_marks Try.func17 rfl trivial ?_ rfl
  simp only [Try.ntmps17, List.size_toArray, List.length_cons, List.length_nil, Nat.reduceAdd, Nat.reduceSub, Array.replicate_succ, Array.replicate_zero, List.push_toArray, List.append_toArray, List.nil_append, List.cons_append]
  gi_wp2_with fail
  refine ⟨trivial, rfl, ?_⟩
  refine (callsIn_wide.2 (cv _)).mono ?_
  rintro e w1 ⟨rfl, rfl⟩
  gi_wp2_with fail
  obtain ⟨n0, hn0⟩ : ∃ x, x = w.heap.size := ⟨_, rfl⟩
  obtain ⟨W1, hW1⟩ : ∃ x, x = (w.alloc (.cells #[.string ⟨#[]⟩] 9)).alloc (.cells #[.bool false] 4) := ⟨_, rfl⟩
  rw [← hW1] at h0 ⊢
  have hz1 : W1.heap.size = n0 + 2 := by rw [hW1, hn0]; simp
  have g1 := (Below.refl W1.heap.size W1).alloc (Nat.le_refl _) (.cells #[.slice A l.length c] 25)
  have r1 := Boxed.new W1 25 (.slice A l.length c)
  have r2 := Boxed.new (W1.alloc (.cells #[.slice A l.length c] 25)) 9 (.string s)
  have r1' := r1.alloc (.cells #[.string s] 9)
  have g2 := g1.alloc g1.size (.cells #[.string s] 9)
  have hz2 : ((W1.alloc (.cells #[.slice A l.length c] 25)).alloc (.cells #[.string s] 9)).heap.size = n0 + 4 := by rw [World.size_alloc, World.size_alloc, hz1]
  rw [World.size_alloc, hz1] at r2
  rw [hz1] at r1'
  have hfr := h0.grow (W' := (W1.alloc (.cells #[.slice A l.length c] 25)).alloc (.cells #[.string s] 9)) (row := none) ⟨g2.os, g2.tape, g2.output, g2.size, fun k hk _ => g2.block k hk⟩ (fun r e => by cases e)
  rw [← hn0] at hfr ⊢
  generalize (W1.alloc (.cells #[.slice A l.length c] 25)).alloc (.cells #[.string s] 9) = W2 at *
  have hH2 : HasFd W2 W2.heap.size A l.length l := (hH.below hfr.bel_w).more (by rw [hz2, ← hn0]; omega)
  have hKb : ∀ k, krV (n0 + 2) A l.length k → k < W2.heap.size ∧ ¬ ownF n0 k := by
    rintro k (rfl | ⟨h1, o, rfl⟩)
    · exact ⟨by omega, by rintro (h | h) <;> omega⟩
    · obtain ⟨b, off, e, hb, _⟩ := hH.2 h1
      cases e
      exact ⟨by omega, by rintro (h | h) <;> omega⟩
  have HN0 := Lib.hid hn0
  have HKB := Lib.hid hKb
  clear h0 hW1 hz1 g1 r1 g2 cv hH hn0 hKb
  simp only [Nat.add_assoc, Nat.reduceAdd]
  refine wpIn_range_C (gf := 47) (lb := #[.pointer (some ⟨n0 + 2, 0, none⟩), .pointer (some ⟨n0 + 3, 0, none⟩)]) rfl (enters_of Try.func47 (by kernel_rfl) rfl)
    (L := fall l (ls s)) (Kr := krV (n0 + 2) A l.length) (fun W3 hg => hit (n0 + 2) W3 ((hg.block _ r1'.lt (by simp)).trans r1') ((hg.block _ r2.lt (by simp)).trans r2) ((hH2.keep fun p hp => World.cell?_of_block (w := W2) (hg.block p.block hp (by simp))).more hg.size)) rfl
    (FI w n0) (fun c _ C W => FX w n0 (fall l (ls s)) c C W) (ownF n0)
    (FI.std (by omega)) (fun c => FX.std (by omega)) (fun s C W h => by obtain ⟨_, h, rfl⟩ := h; rintro k (rfl | rfl); exact h.res.lt; exact h.ok.lt) HKB.out
    ⟨rfl, hfr, rfl⟩
    (fun x => { tmps := #[.slice A l.length c, .string s, undef, undef, .pointer (some ⟨n0, 0, none⟩), .pointer (some ⟨n0 + 1, 0, none⟩), .string x, .slice A l.length c, .string s, .func (.func 47) #[] #[.pointer (some ⟨n0 + 2, 0, none⟩), .pointer (some ⟨n0 + 3, 0, none⟩)], .string x, undef], defers := [] }) ?assign ?body ?done ?stop
  case assign =>
    intro l x W K hK
    gi_wp2
    exact hK
  case done =>
    rintro D C W hD hnD ⟨he, hf, rfl⟩ hK
    have k0 := hf.res.cell
    have f0 := hf.res.frozen
    have k1 := fun u => (hf.ok.other (show n0 + 1 ≠ n0 by omega) u).cell
    have f1 := fun u => (hf.ok.other (show n0 + 1 ≠ n0 by omega) u).frozen
    have HE := Lib.hid he
    clear he hit
    gi_wp2
    obtain ⟨p1, p2⟩ := hf.set ⟨#[]⟩ false
    have hz := (Array.getElem?_eq_some_iff.1 hK).1
    exact first_end p1 (by omega) ((p2.same D hz hnD).trans hK) rfl rfl (by rw [HE.out]; exact ⟨rfl, rfl⟩)
  case stop =>
    rintro D c pre C W hD hnD hpre ⟨rfl, rfl, x, r, hL, hf⟩ hK
    have HE := Lib.hid hL
    clear hL hit
    gi_wp2
    exact first_end hf (by omega) hK rfl rfl (by rw [HE.out]; exact ⟨(bs_ls x).symm, rfl⟩)
  case body =>
    rintro lp pre x C W hlp hnl hrec hxs hpre ⟨rfl, hf, rfl⟩
    have k0 := hf.res.cell
    have f0 := hf.res.frozen
    have k1 := fun u => (hf.ok.other (show n0 + 1 ≠ n0 by omega) u).cell
    have f1 := fun u => (hf.ok.other (show n0 + 1 ≠ n0 by omega) u).frozen
    obtain ⟨r, hr⟩ := hpre
    have HE := Lib.hid hr.symm
    clear hr hit
    gi_wp2
    obtain ⟨p1, p2⟩ := hf.set x true
    exact ⟨_, p2, rfl, rfl, x, r, by rw [HE.out]; rfl, p1⟩

end Go.Proofs.Ytmfoegpdjajicaa
