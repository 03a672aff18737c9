/-
Origins in plain words.
The reference's Valid and Format of package url.
URLs' variables in regions that draw their order; what an upgrade keeps.
What an upgrade changes, in plain words.
The reference's Upgrade of package url.
Contract of the helper Short of the statements (package hstsstorekeep).
The helper SmallURL of the statements.
The examples of the chapter on URLs hold.
-/
import Derived.Test.YtekaljeicfjkjaaGreatDoorB26
import Derived.Test.YtekaljeicfjkjaaGreatDoorB33
import Derived.Test.YtekaljeicfjkjaaGreatDoorB36
import Derived.Deep.RegionHeld3
import Derived.Test.YtekaljeicfjkjaaGreatDoorRows
import Derived.Test.YtekaljeicfjkjaaGreatDoorB00
import Derived.BigQuiet
import Derived.Deep.QuietTactic
import Derived.WalkSmall
namespace Go.Proofs.YtekaljeicfjkjaaGreatDoor
section
open Go.RowKit Go.Shelf
structure Ov where
 scheme : List UInt8
 host : Hv
 port : Int
theorem zu4 {u : Uv} : z4l u = true ↔ UGood u := by
 constructor
 ·intro h
  unfold z4l at h
  rw [Bool.and_eq_true, decide_eq_true_iff, z8m] at h
  exact z6e (l := z32 u) (by rw [← h.1]; exact Prod.ext rfl h.2)
 ·exact z69
end

section
open Go.RowKit Go.Shelf
def z8p (u : Uv) : Bool := decide ((z5t (z7o u)).1 = 0) && eqU (z5t (z7o u)).2 u
theorem z8q (u : Uv) : z8p u = z4l u := by
 by_cases h : -1 ≤ u.port
 ·unfold z8p z4l
  rw [z7p h, z33 h]
 ·have h1 : z4l u ≠ true := fun h9 => h (z68 (zu4.1 h9))
  have h2 : z8p u ≠ true := fun h9 => by
   unfold z8p at h9
   rw [Bool.and_eq_true, decide_eq_true_iff, z8m] at h9
   exact h (z68 (z6e (l := z7o u) (by rw [← h9.1]; exact Prod.ext rfl h9.2)))
  rw [Bool.eq_false_iff.2 h1, Bool.eq_false_iff.2 h2]
set_option maxRecDepth 20000 in
set_option maxHeartbeats 2000000 in
theorem z8r (u : Uv) (h : USm u) (hl : (z7o u).length ≤ 99999990) (w : World) (hw : Uw w) :
 Calls Tryz.prog 13 #[.agg u.cells] w fun e w' => e = .returned (.bool (z8p u)) ∧ Below w.heap.size w w' := by
 have c1 := fun W hW => z7s u h W hW
 have c2 := fun W => z7m (bs (z7o u)) W (by rw [zb5]; exact hl)
 unfold z39 at c2
 rw [zb0] at c2
 have hE := fun W => z8o (z5t (z7o u)).2 u (z4k _) h.wf W
 have hv : z8p u = (decide ((z5t (z7o u)).1 = 0) && eqU (z5t (z7o u)).2 u) := rfl
 have hC := z4f u
 have hC1 := z4g u
 have hD := z4f (z5t (z7o u)).2
 have hD1 := z4g (z5t (z7o u)).2
 generalize eqU (z5t (z7o u)).2 u = b at *
 generalize (z5t (z7o u)).1 = n at *
 generalize (z5t (z7o u)).2.cells = D at *
 generalize u.cells = C at *
 generalize bs (z7o u) = T at *
 have HV := Lib.hid hv
 have HW := Lib.hid hw
 generalize z8p u = V at *
 clear h hv hw hl
 by_cases hn : n = 0
 ·subst hn
  go_enter Tryz.func13, Tryz.ntmps13
  go_wp2_with (first
   | (refine zax _ rfl 1 rfl _ _ rfl _ C (by exact rfl) (by exact rfl) ?_; intro W1 g1 hg1 hl1 hR1 hG1; have hbw := zav (Below.refl w.heap.size w) hG1 (Nat.le_refl _))
   | (refine z8d (by rfl) _ rfl g1 (by exact rfl) C hR1 hC ?_)
   | (go_at_call 35; refine (c1 _ (z38 HW.out hbw).1.1).mono ?_; rintro e w5 ⟨rfl, hb5⟩
      replace hR1 : z8b w5 g1 C := Row.below hR1 hb5 (Row.lt hR1)
      replace hbw := hbw.trans (hb5.mono hbw.size)
      clear hb5)
   | (go_at_call 37; refine (c2 _).mono ?_; rintro e w6 ⟨rfl, hb6⟩
      replace hR1 : z8b w6 g1 C := Row.below hR1 hb6 (Row.lt hR1)
      replace hbw := hbw.trans (hb6.mono hbw.size)
      clear hb6)
   | (refine zay _ rfl 3 rfl _ rfl uz z3y ?_
      intro W3 g3 hg3 hl3 hr3 hG3
      have hne : g1 ≠ g3 := by have := Row.lt hR1; omega
      replace hR1 : z8b W3 g1 C := Row.grown0 hR1 hG3
      have h3 : w.heap.size ≤ g3 := by have := hbw.size; omega
      replace hbw := zav hbw hG3 (Nat.le_refl _))
   | (refine z8f rfl rfl _ _ rfl g3 (by exact rfl) D (by exact rfl) uz hr3 rfl hD hD1 ?_
      intro w7 hr7 hG7
      replace hR1 : z8b w7 g1 C := Row.grown hR1 hG7 hne
      replace hbw := zau hbw hG7 (Nat.le_refl _) h3)
   | (refine z8d (by rfl) _ rfl g3 (by exact rfl) D hr7 hD ?_))
  go_ret
  have e : V = b := HV.out.trans (by simp)
  exact ⟨by rw [e]; rfl, hbw⟩
 ·have hn0 : ((n : Int) == 0) = false := by rw [beq_eq_false_iff_ne]; omega
  have e : Hid (V = false) := Lib.hid (HV.out.trans (by simp [hn]))
  clear hn HV
  go_enter Tryz.func13, Tryz.ntmps13
  go_wp2_with (first
   | (refine zax _ rfl 1 rfl _ _ rfl _ C (by exact rfl) (by exact rfl) ?_; intro W1 g1 hg1 hl1 hR1 hG1; have hbw := zav (Below.refl w.heap.size w) hG1 (Nat.le_refl _))
   | (refine z8d (by rfl) _ rfl g1 (by exact rfl) C hR1 hC ?_)
   | (go_at_call 35; refine (c1 _ (z38 HW.out hbw).1.1).mono ?_; rintro e w5 ⟨rfl, hb5⟩
      replace hR1 : z8b w5 g1 C := Row.below hR1 hb5 (Row.lt hR1)
      replace hbw := hbw.trans (hb5.mono hbw.size)
      clear hb5)
   | (go_at_call 37; refine (c2 _).mono ?_; rintro e w6 ⟨rfl, hb6⟩
      replace hR1 : z8b w6 g1 C := Row.below hR1 hb6 (Row.lt hR1)
      replace hbw := hbw.trans (hb6.mono hbw.size)
      clear hb6)
   | (refine zay _ rfl 3 rfl _ rfl uz z3y ?_
      intro W3 g3 hg3 hl3 hr3 hG3
      have hne : g1 ≠ g3 := by have := Row.lt hR1; omega
      replace hR1 : z8b W3 g1 C := Row.grown0 hR1 hG3
      have h3 : w.heap.size ≤ g3 := by have := hbw.size; omega
      replace hbw := zav hbw hG3 (Nat.le_refl _))
   | (refine z8f rfl rfl _ _ rfl g3 (by exact rfl) D (by exact rfl) uz hr3 rfl hD hD1 ?_
      intro w7 hr7 hG7
      replace hR1 : z8b w7 g1 C := Row.grown hR1 hG7 hne
      replace hbw := zau hbw hG7 (Nat.le_refl _) h3)
   | (refine z8d (by rfl) _ rfl g3 (by exact rfl) D hr7 hD ?_))
  go_ret
  exact ⟨by rw [e.out]; rfl, hbw⟩
set_option maxRecDepth 20000 in
set_option maxHeartbeats 2000000 in
theorem z8s (u : Uv) (h : USm u) (hl : (z7o u).length ≤ 99999990) (w : World) (hw : Uw w) :
 Calls Tryz.prog 11 #[.agg u.cells] w fun e w' => e = .returned (.string (if z8p u = true then bs (z7o u) else ⟨#[]⟩)) ∧ Below w.heap.size w w' := by
 have c1 := fun W hW => z7s u h W hW
 have c2 := fun W hW => z8r u h hl W hW
 have hC := z4f u
 generalize u.cells = C at *
 generalize bs (z7o u) = T at *
 have HW := Lib.hid hw
 generalize z8p u = V at *
 clear h hw hl
 cases V <;> (
  go_enter Tryz.func11, Tryz.ntmps11
  go_wp2_with (first
   | (refine zax _ rfl 1 rfl _ _ rfl _ C (by exact rfl) (by exact rfl) ?_; intro W1 g1 hg1 hl1 hR1 hG1; have hbw := zav (Below.refl w.heap.size w) hG1 (Nat.le_refl _))
   | (refine z8d (by rfl) _ rfl g1 (by exact rfl) C hR1 hC ?_)
   | (go_at_call 13; refine (c2 _ (z38 HW.out hbw)).mono ?_; rintro e w5 ⟨rfl, hb5⟩
      replace hR1 : z8b w5 g1 C := Row.below hR1 hb5 (Row.lt hR1)
      replace hbw := hbw.trans (hb5.mono hbw.size)
      clear hb5)
   | (go_at_call 35; refine (c1 _ (z38 HW.out hbw).1.1).mono ?_; rintro e w5 ⟨rfl, hb5⟩
      replace hR1 : z8b w5 g1 C := Row.below hR1 hb5 (Row.lt hR1)
      replace hbw := hbw.trans (hb5.mono hbw.size)
      clear hb5))
  go_ret
  exact ⟨rfl, hbw⟩)
end

section
open Go.RowKit Go.Shelf
theorem z7t {S : World → Prop} {ops : Array Oper} {o : Oper} {a : Act} (x : Operand) (ho : o.op = .load 28 x) (hw : Region.wanted o (yielded ops a.tmps) = true) (g : Nat) (hx : a.eval x = .pointer (some ⟨g, 0, none⟩)) (C : Array Value) (hS : ∀ W, S W → z8b W g C) (hc : C.size = 15) : YieldsIf Tryz.prog ops S o (.agg C) a :=
 Or.inl ⟨hw, fun W hW => by
  have hl := z8c (hS W hW) hc
  unfold execOp
  simp only [ho, hx, Instr.loadAt, Instr.sureAddr, Sem.run_bind, Sem.run_pure, Result.andThen_ok, hl]⟩
theorem z7u (u : Uv) : (upU u).user = u.user ∧ (upU u).host = u.host ∧ (upU u).rest = u.rest := by
 unfold upU
 split <;> exact ⟨rfl, rfl, rfl⟩
theorem z7v {u : Uv} (h : USm u) : USm (upU u) := by
 obtain ⟨e1, e2, e3⟩ := z7u u
 have e4 : (upU u).scheme.length ≤ 100000000 := by
  unfold upU
  split
  ·show (z5e u.scheme).length ≤ _
   unfold z5e
   split <;> decide
  ·exact h.s1
 have e5 : (upU u).port = u.port ∨ (upU u).port = -1 := by
  unfold upU
  split
  ·show (if u.port = 443 then -1 else u.port) = u.port ∨ (if u.port = 443 then -1 else u.port) = -1
   split
   ·exact .inr rfl
   ·exact .inl rfl
  ·exact .inl rfl
 have h0 := h.p0
 have h1 := h.p1
 exact ⟨by rw [e2]; exact h.wf, by rw [e2]; exact h.hn, e4, by rw [e1]; exact h.s2, by rw [e3]; exact h.s3, by omega, by omega⟩
end

section
open Go.RowKit Go.Shelf
theorem z4x {u : Uv} (hi : z5b u.scheme = true) : (bs u.scheme = ⟨#[104, 116, 116, 112]⟩ ∧ bs (upU u).scheme = ⟨#[104, 116, 116, 112, 115]⟩) ∨ (bs u.scheme = ⟨#[119, 115]⟩ ∧ bs (upU u).scheme = ⟨#[119, 115, 115]⟩) := by
 have e : (upU u).scheme = z5e u.scheme := by unfold upU; rw [if_pos hi]
 rw [e]
 rcases z6i hi with h | h
 ·left; rw [h]; exact ⟨rfl, rfl⟩
 ·right; rw [h]; exact ⟨rfl, rfl⟩
end

section
open Go.RowKit Go.Shelf
theorem z7w : Tryz.prog.underlying 50 = some (.map 9 9) := Tryz.underlying50
theorem z7x {W : World} {B c : Nat} {es : Array MapEntry} (k v : ByteArray) (h : W.heap[B]? = some (.map es c)) (hn : Instr.findNow .string (.string k) es.toList 0 = some none) :
 (Instr.mapUpdate 50 (.map (some B)) (.string k) (.string v)).run Tryz.prog W = .ok () { W with heap := W.heap.setIfInBounds B (.map (es.push { key := .string k, val := .string v, born := c }) (c + 1)) } := by
 have h1 : (getObj B).run Tryz.prog W = .ok (.map es c) W := by simp [getObj, Sem.run, h]
 have h2 : ∀ o, (setObj B o).run Tryz.prog W = .ok () { W with heap := W.heap.setIfInBounds B o } := fun o => by simp [setObj, Sem.run, h]
 have h3 : ∀ e, (Instr.checkKey e 10000 9 (.string k)).run Tryz.prog W = .ok () W := fun e => by
  show (Instr.checkKey e (9999 + 1) 9 (.string k)).run Tryz.prog W = _
  unfold Instr.checkKey
  simp [run_underlying z16, Result.andThen]
 simp [Instr.mapUpdate, run_underlying z7w, h1, h3, Instr.findKey, run_underlying z16, hn, h2, Result.andThen]
theorem z7y {W : World} {B c i : Nat} {es : Array MapEntry} (k v : ByteArray) (h : W.heap[B]? = some (.map es c)) (hn : Instr.findNow .string (.string k) es.toList 0 = some (some (i, .string v))) :
 (Instr.lookup 50 (.map (some B)) (.string k) false).run Tryz.prog W = .ok (.string v) W := by
 have h1 : (getObj B).run Tryz.prog W = .ok (.map es c) W := by simp [getObj, Sem.run, h]
 have h3 : ∀ e, (Instr.checkKey e 10000 9 (.string k)).run Tryz.prog W = .ok () W := fun e => by
  show (Instr.checkKey e (9999 + 1) 9 (.string k)).run Tryz.prog W = _
  unfold Instr.checkKey
  simp [run_underlying z16, Result.andThen]
 simp [Instr.lookup, run_underlying z7w, h1, h3, Instr.findKey, run_underlying z16, hn, Result.andThen]
theorem z7z (w : World) : ∃ W1 W2 : World, (Instr.mapUpdate 50 (.map (some w.heap.size)) (.string ⟨#[104, 116, 116, 112]⟩) (.string ⟨#[104, 116, 116, 112, 115]⟩)).run Tryz.prog (w.alloc (.map #[] 0)) = .ok () W1 ∧
 (Instr.mapUpdate 50 (.map (some w.heap.size)) (.string ⟨#[119, 115]⟩) (.string ⟨#[119, 115, 115]⟩)).run Tryz.prog W1 = .ok () W2 ∧
 (Instr.lookup 50 (.map (some w.heap.size)) (.string ⟨#[104, 116, 116, 112]⟩) false).run Tryz.prog W2 = .ok (.string ⟨#[104, 116, 116, 112, 115]⟩) W2 ∧
 (Instr.lookup 50 (.map (some w.heap.size)) (.string ⟨#[119, 115]⟩) false).run Tryz.prog W2 = .ok (.string ⟨#[119, 115, 115]⟩) W2 ∧ Below w.heap.size w W2 := by
 have h0 : (w.alloc (.map #[] 0)).heap[w.heap.size]? = some (.map #[] 0) := heap_alloc_last w _
 have hs : ∀ (W : World) (o : Obj), w.heap.size < W.heap.size → (W.heap.setIfInBounds w.heap.size o)[w.heap.size]? = some o := fun W o h => by
  rw [Array.getElem?_setIfInBounds_self_of_lt h]
 have z0 : w.heap.size < (w.alloc (.map #[] 0)).heap.size := by simp
 have u1 := z7x ⟨#[104, 116, 116, 112]⟩ ⟨#[104, 116, 116, 112, 115]⟩ h0 (by rfl)
 have h1 := hs (w.alloc (.map #[] 0)) (.map (#[].push { key := .string ⟨#[104, 116, 116, 112]⟩, val := .string ⟨#[104, 116, 116, 112, 115]⟩, born := 0 }) (0 + 1)) z0
 have u2 := z7x (W := { w.alloc (.map #[] 0) with heap := (w.alloc (.map #[] 0)).heap.setIfInBounds w.heap.size (.map (#[].push { key := .string ⟨#[104, 116, 116, 112]⟩, val := .string ⟨#[104, 116, 116, 112, 115]⟩, born := 0 }) (0 + 1)) }) ⟨#[119, 115]⟩ ⟨#[119, 115, 115]⟩ h1 (by rfl)
 have h2 := hs { w.alloc (.map #[] 0) with heap := (w.alloc (.map #[] 0)).heap.setIfInBounds w.heap.size (.map (#[].push { key := .string ⟨#[104, 116, 116, 112]⟩, val := .string ⟨#[104, 116, 116, 112, 115]⟩, born := 0 }) (0 + 1)) } (.map ((#[].push { key := .string ⟨#[104, 116, 116, 112]⟩, val := .string ⟨#[104, 116, 116, 112, 115]⟩, born := 0 }).push { key := .string ⟨#[119, 115]⟩, val := .string ⟨#[119, 115, 115]⟩, born := 0 + 1 }) (0 + 1 + 1)) (by simp)
 refine ⟨_, _, u1, u2, z7y _ _ h2 (by rfl), z7y _ _ h2 (by rfl), ⟨rfl, rfl, rfl, by simp, fun i hi => ?_⟩⟩
 have hne : w.heap.size ≠ i := by omega
 show (((w.alloc (.map #[] 0)).heap.setIfInBounds w.heap.size _).setIfInBounds w.heap.size _)[i]? = _
 rw [Array.getElem?_setIfInBounds_ne hne, Array.getElem?_setIfInBounds_ne hne]
 show (w.heap.push _)[i]? = _
 rw [Array.getElem?_push_lt hi, Array.getElem?_eq_getElem hi]
set_option maxRecDepth 20000 in
set_option maxHeartbeats 2000000 in
theorem z70 (u : Uv) (w : World) :
 Calls Tryz.prog 21 #[.agg u.cells] w fun e w' => e = .returned (.agg (upU u).cells) ∧ Below w.heap.size w w' := by
 have hC := z8i u
 have c1 := fun W => z66 u W
 cases hi : z5b u.scheme with
 | false =>
   rw [z4s hi]
   rw [hi] at c1
   generalize u.cells = C at *
   clear hi
   go_enter Tryz.func21, Tryz.ntmps21
   go_wp2_with (first
    | (refine zax _ rfl 1 rfl _ _ rfl _ C (by exact rfl) (by exact rfl) ?_; intro W1 g1 hg1 hl1 hR1 hG1; have hbw := zav (Below.refl w.heap.size w) hG1 (Nat.le_refl _))
    | (refine zay _ rfl 2 rfl _ rfl uz z3y ?_
       intro W2 g2 hg2 hl2 hR2 hG2
       have h2 : w.heap.size ≤ g2 := by have := hbw.size; omega
       replace hR1 : z8b W2 g1 C := Row.grown0 hR1 hG2
       replace hR2 : z8b W2 g2 uz := hR2
       replace hbw := zav hbw hG2 (Nat.le_refl _))
    | (refine z8d (by rfl) _ rfl g1 (by exact rfl) C hR1 hC.sz ?_)
    | (go_at_call 17; refine (c1 _).mono ?_; rintro e w5 ⟨rfl, hb5⟩
       replace hR1 : z8b w5 g1 C := Row.below hR1 hb5 (Row.lt hR1)
       replace hR2 : z8b w5 g2 uz := Row.below hR2 hb5 (Row.lt hR2)
       replace hbw := hbw.trans (hb5.mono hbw.size)
       clear hb5)
    | (refine z8f rfl rfl _ _ rfl g2 (by exact rfl) C (by exact rfl) uz hR2 rfl hC.sz hC.one ?_
       intro w8 hr8 hG8
       have hb8 := zau hbw hG8 (Nat.le_refl _) h2))
   exact z8h 2 rfl g2 rfl C hr8 hC.sz rfl ⟨rfl, hb8⟩
 | true =>
   rw [hi] at c1
   have hT := z4x hi
   have hU1 := fun h => z4t (u := u) hi h
   have hU2 := fun h => z4u (u := u) hi h
   obtain ⟨p, hp⟩ : ∃ p, p = u.port := ⟨_, rfl⟩
   have e : bs (upU u).scheme = bs (z5e u.scheme) := by unfold upU; rw [if_pos hi]
   rw [e] at hT
   rw [← hp] at hC hU1 hU2
   generalize (upU u).cells = D at *
   generalize u.cells = C at *
   generalize u.host.cells = H at *
   generalize bs u.scheme = S at *
   generalize bs (z5e u.scheme) = Z at *
   clear hi hp e
   have HU1 := Lib.hid hU1
   have HU2 := Lib.hid hU2
   clear hU1 hU2
   rcases hT with ⟨rfl, rfl⟩ | ⟨rfl, rfl⟩
   ·go_enter Tryz.func21, Tryz.ntmps21
    go_upto_region 3 with (first
     | (refine zax _ rfl 1 rfl _ _ rfl _ C (by exact rfl) (by exact rfl) ?_; intro W1 g1 hg1 hl1 hR1 hG1; have hbw := zav (Below.refl w.heap.size w) hG1 (Nat.le_refl _))
     | (refine zay _ rfl 2 rfl _ rfl uz z3y ?_
        intro W2 g2 hg2 hl2 hR2 hG2
        have h2 : w.heap.size ≤ g2 := by have := hbw.size; omega
        have hne : g2 ≠ g1 := by omega
        replace hR1 : z8b W2 g1 C := Row.grown0 hR1 hG2
        replace hR2 : z8b W2 g2 uz := hR2
        replace hbw := zav hbw hG2 (Nat.le_refl _))
     | (refine z8d (by rfl) _ rfl g1 (by exact rfl) C hR1 hC.sz ?_)
     | (go_at_call 17; refine (c1 _).mono ?_; rintro e w5 ⟨rfl, hb5⟩
        replace hR1 : z8b w5 g1 C := Row.below hR1 hb5 (Row.lt hR1)
        replace hR2 : z8b w5 g2 uz := Row.below hR2 hb5 (Row.lt hR2)
        replace hbw := hbw.trans (hb5.mono hbw.size)
        clear hb5))
    clear hG1 hG2 hl1 hl2
    obtain ⟨W1m, W2m, r1, r2, r3, r4, hbm⟩ := z7z w5
    have hmm := @run_makeMap Tryz.prog
    replace hR1 : z8b W2m g1 C := Row.below hR1 hbm (Row.lt hR1)
    replace hR2 : z8b W2m g2 uz := Row.below hR2 hbm (Row.lt hR2)
    replace hbw := hbw.trans (hbm.mono hbw.size)
    clear hbm
    obtain ⟨e0, e1, e3, e13, e14⟩ := hC.cell hR1
    have fz := Row.frozen9 hR1 0
    go_upto_region 4 with fail
    clear e0 e1 e3 e13 e14 fz r1 r2 r3 r4 hmm
    replace hR1 : z8b (W2m.setCell ⟨g1, 0, none⟩ (.string ⟨#[104, 116, 116, 112, 115]⟩)) g1 (C.setIfInBounds 0 (.string ⟨#[104, 116, 116, 112, 115]⟩)) := Row.set9 hR1
    replace hR2 : z8b (W2m.setCell ⟨g1, 0, none⟩ (.string ⟨#[104, 116, 116, 112, 115]⟩)) g2 uz := Row.set_other9 hR2 hne
    replace hbw := hbw.setCell (p := ⟨g1, 0, none⟩) hg1 (.string ⟨#[104, 116, 116, 112, 115]⟩)
    generalize W2m.setCell ⟨g1, 0, none⟩ (.string ⟨#[104, 116, 116, 112, 115]⟩) = w9 at *
    have z1 : (C.setIfInBounds 0 (.string ⟨#[104, 116, 116, 112, 115]⟩)).size = 15 := by rw [Array.size_setIfInBounds]; exact hC.sz
    have o1 : (C.setIfInBounds 0 (.string ⟨#[104, 116, 116, 112, 115]⟩)).all (·.oneCell') = true := z4v hC.one rfl
    have e13 := Row.at9 hR1 (show (C.setIfInBounds 0 (.string ⟨#[104, 116, 116, 112, 115]⟩))[13]? = some (.int .i64 p) by rw [Array.getElem?_setIfInBounds_ne (by decide)]; exact hC.c13)
    by_cases hp : p = 443
    ·have hq : (p == 443) = true := by rw [hp]; rfl
     have HD := Lib.hid (HU1.out hp)
     generalize C.setIfInBounds 0 (.string ⟨#[104, 116, 116, 112, 115]⟩) = C1 at *
     have z2 : (C1.setIfInBounds 13 (.int .i64 (-1))).size = 15 := by rw [Array.size_setIfInBounds]; exact z1
     have o2 : (C1.setIfInBounds 13 (.int .i64 (-1))).all (·.oneCell') = true := z4v o1 rfl
     clear hp
     go_upto_region 5 with fail
     clear e13
     go_wp2_with (first
      | (refine za1 _ rfl rfl _ _ _ rfl g1 13 (by exact rfl) _ rfl rfl _ C1 hR1 (by rw [z1]; decide) (by exact z8a) ?_
         intro w11 hr11 hG11
         replace hR2 : z8b w11 g2 uz := Row.grown hR2 hG11 hne
         replace hbw := zau hbw hG11 (Nat.le_refl _) hg1)
      | (refine z8d (by rfl) _ rfl g1 (by exact rfl) _ hr11 z2 ?_)
      | (refine z8f rfl rfl _ _ rfl g2 (by exact rfl) (C1.setIfInBounds 13 (.int .i64 (-1))) (by exact rfl) uz hR2 rfl z2 o2 ?_
         intro w12 hr12 hG12
         have hb12 := zau hbw hG12 (Nat.le_refl _) h2))
     exact z8h 2 rfl g2 rfl _ hr12 z2 rfl ⟨by rw [HD.out], hb12⟩
    ·have hq : (p == 443) = false := by rw [beq_eq_false_iff_ne]; exact hp
     have HD := Lib.hid (HU2.out hp)
     generalize C.setIfInBounds 0 (.string ⟨#[104, 116, 116, 112, 115]⟩) = C1 at *
     clear hp
     go_wp2_with (first
      | (refine z8d (by rfl) _ rfl g1 (by exact rfl) C1 hR1 z1 ?_)
      | (refine z8f rfl rfl _ _ rfl g2 (by exact rfl) C1 (by exact rfl) uz hR2 rfl z1 o1 ?_
         intro w12 hr12 hG12
         have hb12 := zau hbw hG12 (Nat.le_refl _) h2))
     exact z8h 2 rfl g2 rfl C1 hr12 z1 rfl ⟨by rw [HD.out], hb12⟩
   ·go_enter Tryz.func21, Tryz.ntmps21
    go_upto_region 3 with (first
     | (refine zax _ rfl 1 rfl _ _ rfl _ C (by exact rfl) (by exact rfl) ?_; intro W1 g1 hg1 hl1 hR1 hG1; have hbw := zav (Below.refl w.heap.size w) hG1 (Nat.le_refl _))
     | (refine zay _ rfl 2 rfl _ rfl uz z3y ?_
        intro W2 g2 hg2 hl2 hR2 hG2
        have h2 : w.heap.size ≤ g2 := by have := hbw.size; omega
        have hne : g2 ≠ g1 := by omega
        replace hR1 : z8b W2 g1 C := Row.grown0 hR1 hG2
        replace hR2 : z8b W2 g2 uz := hR2
        replace hbw := zav hbw hG2 (Nat.le_refl _))
     | (refine z8d (by rfl) _ rfl g1 (by exact rfl) C hR1 hC.sz ?_)
     | (go_at_call 17; refine (c1 _).mono ?_; rintro e w5 ⟨rfl, hb5⟩
        replace hR1 : z8b w5 g1 C := Row.below hR1 hb5 (Row.lt hR1)
        replace hR2 : z8b w5 g2 uz := Row.below hR2 hb5 (Row.lt hR2)
        replace hbw := hbw.trans (hb5.mono hbw.size)
        clear hb5))
    clear hG1 hG2 hl1 hl2
    obtain ⟨W1m, W2m, r1, r2, r3, r4, hbm⟩ := z7z w5
    have hmm := @run_makeMap Tryz.prog
    replace hR1 : z8b W2m g1 C := Row.below hR1 hbm (Row.lt hR1)
    replace hR2 : z8b W2m g2 uz := Row.below hR2 hbm (Row.lt hR2)
    replace hbw := hbw.trans (hbm.mono hbw.size)
    clear hbm
    obtain ⟨e0, e1, e3, e13, e14⟩ := hC.cell hR1
    have fz := Row.frozen9 hR1 0
    go_upto_region 4 with fail
    clear e0 e1 e3 e13 e14 fz r1 r2 r3 r4 hmm
    replace hR1 : z8b (W2m.setCell ⟨g1, 0, none⟩ (.string ⟨#[119, 115, 115]⟩)) g1 (C.setIfInBounds 0 (.string ⟨#[119, 115, 115]⟩)) := Row.set9 hR1
    replace hR2 : z8b (W2m.setCell ⟨g1, 0, none⟩ (.string ⟨#[119, 115, 115]⟩)) g2 uz := Row.set_other9 hR2 hne
    replace hbw := hbw.setCell (p := ⟨g1, 0, none⟩) hg1 (.string ⟨#[119, 115, 115]⟩)
    generalize W2m.setCell ⟨g1, 0, none⟩ (.string ⟨#[119, 115, 115]⟩) = w9 at *
    have z1 : (C.setIfInBounds 0 (.string ⟨#[119, 115, 115]⟩)).size = 15 := by rw [Array.size_setIfInBounds]; exact hC.sz
    have o1 : (C.setIfInBounds 0 (.string ⟨#[119, 115, 115]⟩)).all (·.oneCell') = true := z4v hC.one rfl
    have e13 := Row.at9 hR1 (show (C.setIfInBounds 0 (.string ⟨#[119, 115, 115]⟩))[13]? = some (.int .i64 p) by rw [Array.getElem?_setIfInBounds_ne (by decide)]; exact hC.c13)
    by_cases hp : p = 443
    ·have hq : (p == 443) = true := by rw [hp]; rfl
     have HD := Lib.hid (HU1.out hp)
     generalize C.setIfInBounds 0 (.string ⟨#[119, 115, 115]⟩) = C1 at *
     have z2 : (C1.setIfInBounds 13 (.int .i64 (-1))).size = 15 := by rw [Array.size_setIfInBounds]; exact z1
     have o2 : (C1.setIfInBounds 13 (.int .i64 (-1))).all (·.oneCell') = true := z4v o1 rfl
     clear hp
     go_upto_region 5 with fail
     clear e13
     go_wp2_with (first
      | (refine za1 _ rfl rfl _ _ _ rfl g1 13 (by exact rfl) _ rfl rfl _ C1 hR1 (by rw [z1]; decide) (by exact z8a) ?_
         intro w11 hr11 hG11
         replace hR2 : z8b w11 g2 uz := Row.grown hR2 hG11 hne
         replace hbw := zau hbw hG11 (Nat.le_refl _) hg1)
      | (refine z8d (by rfl) _ rfl g1 (by exact rfl) _ hr11 z2 ?_)
      | (refine z8f rfl rfl _ _ rfl g2 (by exact rfl) (C1.setIfInBounds 13 (.int .i64 (-1))) (by exact rfl) uz hR2 rfl z2 o2 ?_
         intro w12 hr12 hG12
         have hb12 := zau hbw hG12 (Nat.le_refl _) h2))
     exact z8h 2 rfl g2 rfl _ hr12 z2 rfl ⟨by rw [HD.out], hb12⟩
    ·have hq : (p == 443) = false := by rw [beq_eq_false_iff_ne]; exact hp
     have HD := Lib.hid (HU2.out hp)
     generalize C.setIfInBounds 0 (.string ⟨#[119, 115, 115]⟩) = C1 at *
     clear hp
     go_wp2_with (first
      | (refine z8d (by rfl) _ rfl g1 (by exact rfl) C1 hR1 z1 ?_)
      | (refine z8f rfl rfl _ _ rfl g2 (by exact rfl) C1 (by exact rfl) uz hR2 rfl z1 o1 ?_
         intro w12 hr12 hG12
         have hb12 := zau hbw hG12 (Nat.le_refl _) h2))
     exact z8h 2 rfl g2 rfl C1 hr12 z1 rfl ⟨by rw [HD.out], hb12⟩
end

section
open Go.RowKit
def zss (n : Int) (ss : List ByteArray) : Bool := ss.all fun s => decide ((s.size : Int) ≤ n)
theorem zst (n : Int) (ss : List ByteArray) (k : Nat) (h : k < ss.length) (hn : n < (ss[k].size : Int)) : zss n ss = false := by
 unfold zss
 rw [List.all_eq_false]
 exact ⟨ss[k], List.getElem_mem h, by simp; omega⟩
theorem zsu (n : Int) (ss : List ByteArray) (k : Nat) (h : k < ss.length) (ht : zss n (ss.take k) = true) (hn : (ss[k].size : Int) ≤ n) : zss n (ss.take (k + 1)) = true := by
 unfold zss at ht ⊢
 rw [List.take_succ_eq_append_getElem h, List.all_append, ht]
 simp [hn]
set_option maxHeartbeats 1000000 in
theorem zsv (n : Int) (A : Option Addr) (len cap : Nat) (ss : List ByteArray) (B : Nat) (w : World) (hA : Has w B A len (ss.map Value.string)) (hlen : len ≤ 1000000000) :
 Calls Tryz.prog 29 #[.int .i64 n, .slice A len cap] w fun e w' => e = .returned (.bool (zss n ss)) ∧ w = w' := by
 have hl : ss.length = len := by simpa using hA.1
 go_enter Tryz.func29, Tryz.ntmps29
 have HL := Lib.hid hl
 have HA := Lib.hid hA
 clear hl hA
 go_wp2
 go_loop [5] (fun i => ∃ k : Nat, k ≤ len ∧ i = .int .i64 k ∧ zss n (ss.take k) = true) (fun i => len - (intOf i).toNat)
 case atStart => exact ⟨0, Nat.zero_le _, rfl, rfl⟩
 case round =>
  obtain ⟨k, hk, rfl, hsh⟩ := hrel
  have HS := Lib.hid hsh
  clear hsh
  by_cases hlt : k < len
  ·have hks : k < ss.length := by rw [HL.out]; exact hlt
   obtain ⟨b, off, rfl, hb, hc⟩ := HA.out.at_ hlt
   rw [List.getElem_map] at hc
   by_cases hn : n < (ss[k].size : Int)
   ·have HF := Lib.hid (zst n ss k hks hn)
    go_wp2
    go_ret
    exact ⟨zbx HF.out.symm, rfl⟩
   ·have HT := Lib.hid (zsu n ss k hks HS.out (by omega))
    go_wp2
    go_round
    case rel => exact ⟨k + 1, by omega, by go_num, HT.out⟩
    case measure => simp [intOf]; omega
  ·have HF : Hid (zss n ss = true) := by
    have := HS.out
    rwa [List.take_of_length_le (by rw [HL.out]; omega)] at this
   go_wp2
   go_ret
   exact ⟨zbx HF.out.symm, rfl⟩
end

section
open Go.RowKit Go.Shelf
theorem z71 (w : World) (a b c d : Value) (t : TypeId) : Has (w.alloc (.cells #[a, b, c, d] t)) (w.heap.size + 1) (some ⟨w.heap.size, 0, none⟩) 4 [a, b, c, d] :=
 ⟨rfl, fun _ => ⟨w.heap.size, 0, rfl, by omega, fun j hj => by
   rw [World.cell?_alloc_at _ _ _ _ rfl, Nat.zero_add]
   match j, hj with
   | 0, _ => rfl
   | 1, _ => rfl
   | 2, _ => rfl
   | 3, _ => rfl⟩⟩
def z72 (u : Uv) : Bool := zss 1500 [bs u.scheme, bs u.user, bs u.host.name, bs u.rest]
theorem z73 {u : Uv} (h : z72 u = true) (hw : u.host.Wf) (h0 : -9223372036854775808 ≤ u.port) (h1 : u.port ≤ 9223372036854775807) : USm u ∧ u.scheme.length ≤ 1500 ∧ u.user.length ≤ 1500 ∧ u.host.name.length ≤ 1500 ∧ u.rest.length ≤ 1500 := by
 unfold z72 zss at h
 simp [zb5] at h
 exact ⟨⟨hw, by omega, by omega, by omega, by omega, h0, h1⟩, by omega, by omega, by omega, by omega⟩
set_option maxHeartbeats 1000000 in
theorem z74 (u : Uv) (w : World) :
 Calls Tryz.prog 8 #[.agg u.cells] w fun e w' => e = .returned (.bool (z72 u)) ∧ Below w.heap.size w w' := by
 have hC := z8i u
 have hq : z72 u = zss 1500 [bs u.scheme, bs u.user, bs u.host.name, bs u.rest] := rfl
 rw [hq]
 clear hq
 generalize u.cells = C at *
 generalize u.host.cells = H at *
 generalize bs u.scheme = S at *
 generalize bs u.user = U at *
 generalize bs u.host.name = N at *
 generalize bs u.rest = R at *
 go_enter Tryz.func8, Tryz.ntmps8
 go_wp2_with (refine zax _ rfl 1 rfl _ _ rfl _ C (by exact rfl) (by exact rfl) ?_; intro W1 g1 hg1 hl1 hR1 hG1; have hbw := zav (Below.refl w.heap.size w) hG1 (Nat.le_refl _)
              obtain ⟨e0, e1, e3, e13, e14⟩ := hC.cell hR1
              have cs := zsv 1500 (some ⟨W1.heap.size, 0, none⟩) 4 4 [S, U, N, R] (W1.heap.size + 1) (W1.alloc (.cells #[.string S, .string U, .string N, .string R] 9)) (z71 W1 _ _ _ _ _) (by omega)
              replace hbw := hbw.alloc hbw.size (.cells #[.string S, .string U, .string N, .string R] 9))
 refine cs.mono ?_
 rintro r w2 ⟨rfl, rfl⟩
 go_wp2
 go_ret
 exact ⟨rfl, hbw⟩
end

section
open Go.RowKit Go.Shelf
def uA : Uv := ⟨[104, 116, 116, 112], [117, 58, 112], hvD [101, 120, 97, 109, 112, 108, 101, 46, 99, 111, 109], -1, [47, 63, 113]⟩
def uB : Uv := ⟨[104, 116, 116, 112], [], hvD [97], 443, [47]⟩
theorem z4y : z5u [72, 84, 84, 80, 58, 47, 47, 117, 58, 112, 64, 69, 120, 97, 109, 112, 108, 101, 46, 99, 111, 109, 58, 56, 48, 63, 113] = (0, uA) := by kernel_rfl
theorem z4z : z5u [104, 116, 116, 112, 58, 47, 47, 97, 58, 52, 52, 51, 47] = (0, uB) := by kernel_rfl
theorem z40 : z5u [104, 116, 116, 112, 58, 47, 97] = (4, uv0) := by kernel_rfl
theorem z41 : (if z4l (upU uB) = true then bs (z32 (upU uB)) else ⟨#[]⟩) = ⟨#[104, 116, 116, 112, 115, 58, 47, 47, 97, 47]⟩ := by kernel_rfl
theorem z42 : (hvD [97]).Wf := ⟨by decide, zit.1, zit.2⟩
theorem z43 : USm uB := ⟨z42, by decide, by decide, by decide, by decide, by decide, by decide⟩
theorem z44 : USm (upU uB) := ⟨z42, by decide, by decide, by decide, by decide, by decide, by decide⟩
set_option maxRecDepth 20000 in
set_option maxHeartbeats 1000000 in
theorem z45 (hPar : zfg 84) (hF : zf6 51) (w : World) (hw : Uw w) :
 Calls Tryz.prog 9 #[] w (Yes w) := by
 have c1 := fun W hW => z4j hPar ⟨#[72, 84, 84, 80, 58, 47, 47, 117, 58, 112, 64, 69, 120, 97, 109, 112, 108, 101, 46, 99, 111, 109, 58, 56, 48, 63, 113]⟩ W (by decide) hW
 have c2 := fun W hW => z4j hPar ⟨#[104, 116, 116, 112, 58, 47, 47, 97, 58, 52, 52, 51, 47]⟩ W (by decide) hW
 have c3 := fun W hW => z4j hPar ⟨#[104, 116, 116, 112, 58, 47, 97]⟩ W (by decide) hW
 have c4 := fun W => z4w uB z43 W
 have c5 := fun W hW => z4p hPar hF (upU uB) z44 W hW
 simp only [z41] at c5
 unfold z39 at c1 c2 c3
 simp only [show ls ⟨#[72, 84, 84, 80, 58, 47, 47, 117, 58, 112, 64, 69, 120, 97, 109, 112, 108, 101, 46, 99, 111, 109, 58, 56, 48, 63, 113]⟩ = [72, 84, 84, 80, 58, 47, 47, 117, 58, 112, 64, 69, 120, 97, 109, 112, 108, 101, 46, 99, 111, 109, 58, 56, 48, 63, 113] from rfl, z4y] at c1
 simp only [show ls ⟨#[104, 116, 116, 112, 58, 47, 47, 97, 58, 52, 52, 51, 47]⟩ = [104, 116, 116, 112, 58, 47, 47, 97, 58, 52, 52, 51, 47] from rfl, z4z] at c2
 simp only [show ls ⟨#[104, 116, 116, 112, 58, 47, 97]⟩ = [104, 116, 116, 112, 58, 47, 97] from rfl, z40] at c3
 have hA : UC uA.cells ⟨#[104, 116, 116, 112]⟩ ⟨#[117, 58, 112]⟩ (bs uA.host.name) uA.host.cells (-1) ⟨#[47, 63, 113]⟩ := z8i uA
 have hB := z4f uB
 have hB1 := z4g uB
 have hZ := z4f uv0
 have hZ1 := z4g uv0
 generalize uA.cells = A at *
 generalize uA.host.cells = HA at *
 generalize bs uA.host.name = NA at *
 generalize uB.cells = B at *
 generalize uv0.cells = Z at *
 generalize (upU uB).cells = V at *
 have HW := Lib.hid hw
 clear hw
 go_enter Tryz.func9, Tryz.ntmps9
 go_wp2_with fail
 refine (c1 _ HW.out).mono ?_
 rintro e w1 ⟨rfl, hbw⟩
 go_wp2_with (first
  | (refine zay _ rfl 1 rfl _ rfl uz z3y ?_
     intro W1 g1 hg1 hl1 hR1 hG1
     have h1 : w.heap.size ≤ g1 := by have := hbw.size; omega
     replace hbw := zav hbw hG1 (Nat.le_refl _))
  | (refine z8f rfl rfl _ _ rfl g1 (by exact rfl) A (by exact rfl) uz hR1 rfl hA.sz hA.one ?_
     intro w2 hr1 hG2
     replace hbw := zau hbw hG2 (Nat.le_refl _) h1))
 refine (c2 _ (z38 HW.out hbw)).mono ?_
 rintro e w3 ⟨rfl, hb3⟩
 replace hr1 : z8b w3 g1 A := Row.below hr1 hb3 (Row.lt hr1)
 replace hbw := hbw.trans (hb3.mono hbw.size)
 clear hR1 hG1 hG2 hb3
 go_wp2_with (first
  | (refine zay _ rfl 3 rfl _ rfl uz z3y ?_
     intro W3 g3 hg3 hl3 hR3 hG3
     have hne13 : g1 ≠ g3 := by have := Row.lt hr1; omega
     have h3 : w.heap.size ≤ g3 := by have := hbw.size; omega
     replace hr1 : z8b W3 g1 A := Row.grown0 hr1 hG3
     replace hbw := zav hbw hG3 (Nat.le_refl _))
  | (refine z8f rfl rfl _ _ rfl g3 (by exact rfl) B (by exact rfl) uz hR3 rfl hB hB1 ?_
     intro w4 hr3 hG4
     replace hr1 : z8b w4 g1 A := Row.grown hr1 hG4 hne13
     replace hbw := zau hbw hG4 (Nat.le_refl _) h3))
 refine (c3 _ (z38 HW.out hbw)).mono ?_
 rintro e w5 ⟨rfl, hb5⟩
 replace hr1 : z8b w5 g1 A := Row.below hr1 hb5 (Row.lt hr1)
 replace hr3 : z8b w5 g3 B := Row.below hr3 hb5 (Row.lt hr3)
 replace hbw := hbw.trans (hb5.mono hbw.size)
 clear hR3 hG3 hG4 hb5
 go_wp2_with (first
  | (refine zay _ rfl 5 rfl _ rfl uz z3y ?_
     intro W5 g5 hg5 hl5 hR5 hG5
     have hne15 : g1 ≠ g5 := by have := Row.lt hr1; omega
     have hne35 : g3 ≠ g5 := by have := Row.lt hr3; omega
     have h5 : w.heap.size ≤ g5 := by have := hbw.size; omega
     replace hr1 : z8b W5 g1 A := Row.grown0 hr1 hG5
     replace hr3 : z8b W5 g3 B := Row.grown0 hr3 hG5
     replace hbw := zav hbw hG5 (Nat.le_refl _))
  | (refine z8f rfl rfl _ _ rfl g5 (by exact rfl) Z (by exact rfl) uz hR5 rfl hZ hZ1 ?_
     intro w6 hr5 hG6
     replace hr1 : z8b w6 g1 A := Row.grown hr1 hG6 hne15
     replace hr3 : z8b w6 g3 B := Row.grown hr3 hG6 hne35
     replace hbw := zau hbw hG6 (Nat.le_refl _) h5
     obtain ⟨e0, e1, e3, e13, e14⟩ := hA.cell hr1)
  | (refine z8d (by rfl) _ rfl g3 (by exact rfl) B hr3 hB ?_)
  | (go_at_call 20; refine (c4 _).mono ?_; rintro e w7 ⟨rfl, hb7⟩
     replace hbw := hbw.trans (hb7.mono hbw.size))
  | (go_at_call 10; refine (c5 _ (z38 HW.out hbw)).mono ?_; rintro e w8 ⟨rfl, hb8⟩
     replace hbw := hbw.trans (hb8.mono hbw.size)))
 go_ret
 exact ⟨rfl, hbw⟩
end

end Go.Proofs.YtekaljeicfjkjaaGreatDoor
