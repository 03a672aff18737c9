/-
The reference's Valid and Format of package url.
Trustworthy of package origin and of its reference (written by tools/gen-OrT.py).
Of of package origin (written by tools/gen-OrF.py).
-/
import Derived.Test.YtekaljeicfjkjaaGreatDoorV34
import Derived.Test.YtekaljeicfjkjaaGreatDoorV37
import Derived.Test.YtekaljeicfjkjaaGreatDoorV26
import Derived.Deep.RegionHeld3
namespace Go.Proofs.YtekaljeicfjkjaaGreatDoor
section
open Go.RowKit Go.Shelf
set_option maxHeartbeats 16000000
def z90 (u : Uv) : Bool := decide ((z7b (z84 u)).1 = 0) && eqU (z7b (z84 u)).2 u
theorem z91 (u : Uv) : z90 u = z6h u := by
 by_cases h : -1 <= u.port
 ·unfold z90 z6h
  rw [z85 h, z50 h]
 ·have h1 : z6h u ≠ true := fun h9 => h (z8o (zwh.1 h9))
  have h2 : z90 u ≠ true := fun h9 => by
   unfold z90 at h9
   rw [Bool.and_eq_true, decide_eq_true_iff, z9x] at h9
   exact h (z8o (z7w (l := z84 u) (by rw [<- h9.1]; exact Prod.ext rfl h9.2)))
  rw [Bool.eq_false_iff.2 h1, Bool.eq_false_iff.2 h2]
set_option maxRecDepth 20000 in
theorem z92 (u : Uv) (h : USm u) (hl : (z84 u).length <= 99999990) (w : World) (hw : Uw w) :
 Calls Tryz.prog 13 #[.agg u.cells] w fun e w' => e = .returned (.bool (z90 u)) /\ Below w.heap.size w w' := by
 have c1 := fun W hW => z88 u h W hW
 have c2 := fun W => z82 (bs (z84 u)) W (by rw [zb5]; exact hl)
 unfold z56 at c2
 rw [zb0] at c2
 have hE := fun W => z9z (z7b (z84 u)).2 u (z6g _) h.wf W
 have hv : z90 u = (decide ((z7b (z84 u)).1 = 0) && eqU (z7b (z84 u)).2 u) := rfl
 have hC := z6c u
 have hC1 := z6d u
 have hD := z6c (z7b (z84 u)).2
 have hD1 := z6d (z7b (z84 u)).2
 generalize eqU (z7b (z84 u)).2 u = b at *
 generalize (z7b (z84 u)).1 = n at *
 generalize (z7b (z84 u)).2.cells = D at *
 generalize u.cells = C at *
 generalize bs (z84 u) = T at *
 have HV := jL hv
 have HW := jL hw
 generalize z90 u = V at *
 clear h hv hw hl
 by_cases hn : n = 0
 ·subst hn
  go_enter Tryz.func13, Tryz.ntmps13
  go_wp2_with (first
   | (refine zax _ rfl 1 rfl _ _ rfl _ C (by exact rfl) (by exact rfl) ?_; intro W1 g1 hg1 hl1 hR1 hG1; have hbw := zav (Below.refl w.heap.size w) hG1 jH)
   | (refine z9o (by rfl) _ rfl g1 (by exact rfl) C hR1 hC ?_)
   | (go_at_call 35; refine (c1 _ (z55 HW.out hbw).1.1).mono ?_; rintro e w5 ⟨rfl, hb5⟩
      replace hR1 : z9m w5 g1 C := Row.below hR1 hb5 (Row.lt hR1)
      replace hbw := hbw.trans (hb5.mono hbw.size)
      clear hb5)
   | (go_at_call 37; refine (c2 _).mono ?_; rintro e w6 ⟨rfl, hb6⟩
      replace hR1 : z9m w6 g1 C := Row.below hR1 hb6 (Row.lt hR1)
      replace hbw := hbw.trans (hb6.mono hbw.size)
      clear hb6)
   | (refine zay _ rfl 3 rfl _ rfl uz z5v ?_
      intro W3 g3 hg3 hl3 hr3 hG3
      have hne : g1 ≠ g3 := by have := Row.lt hR1; omega
      replace hR1 : z9m W3 g1 C := Row.grown0 hR1 hG3
      have h3 : w.heap.size <= g3 := by have := hbw.size; omega
      replace hbw := zav hbw hG3 jH)
   | (refine z9q rfl rfl _ _ rfl g3 (by exact rfl) D (by exact rfl) uz hr3 rfl hD hD1 ?_
      intro w7 hr7 hG7
      replace hR1 : z9m w7 g1 C := Row.grown hR1 hG7 hne
      replace hbw := zau hbw hG7 jH h3)
   | (refine z9o (by rfl) _ rfl g3 (by exact rfl) D hr7 hD ?_))
  go_ret
  have e : V = b := HV.out.trans (by simp)
  exact ⟨by rw [e]; rfl, hbw⟩
 ·have hn0 : ((n : Int) == 0) = false := by rw [beq_eq_false_iff_ne]; omega
  have e : Hid (V = false) := jL (HV.out.trans (by simp [hn]))
  clear hn HV
  go_enter Tryz.func13, Tryz.ntmps13
  go_wp2_with (first
   | (refine zax _ rfl 1 rfl _ _ rfl _ C (by exact rfl) (by exact rfl) ?_; intro W1 g1 hg1 hl1 hR1 hG1; have hbw := zav (Below.refl w.heap.size w) hG1 jH)
   | (refine z9o (by rfl) _ rfl g1 (by exact rfl) C hR1 hC ?_)
   | (go_at_call 35; refine (c1 _ (z55 HW.out hbw).1.1).mono ?_; rintro e w5 ⟨rfl, hb5⟩
      replace hR1 : z9m w5 g1 C := Row.below hR1 hb5 (Row.lt hR1)
      replace hbw := hbw.trans (hb5.mono hbw.size)
      clear hb5)
   | (go_at_call 37; refine (c2 _).mono ?_; rintro e w6 ⟨rfl, hb6⟩
      replace hR1 : z9m w6 g1 C := Row.below hR1 hb6 (Row.lt hR1)
      replace hbw := hbw.trans (hb6.mono hbw.size)
      clear hb6)
   | (refine zay _ rfl 3 rfl _ rfl uz z5v ?_
      intro W3 g3 hg3 hl3 hr3 hG3
      have hne : g1 ≠ g3 := by have := Row.lt hR1; omega
      replace hR1 : z9m W3 g1 C := Row.grown0 hR1 hG3
      have h3 : w.heap.size <= g3 := by have := hbw.size; omega
      replace hbw := zav hbw hG3 jH)
   | (refine z9q rfl rfl _ _ rfl g3 (by exact rfl) D (by exact rfl) uz hr3 rfl hD hD1 ?_
      intro w7 hr7 hG7
      replace hR1 : z9m w7 g1 C := Row.grown hR1 hG7 hne
      replace hbw := zau hbw hG7 jH h3)
   | (refine z9o (by rfl) _ rfl g3 (by exact rfl) D hr7 hD ?_))
  go_ret
  exact ⟨by rw [e.out]; rfl, hbw⟩
end

section
open Go.RowKit Go.Shelf
set_option maxHeartbeats 16000000
theorem zwn (u : Uv) : ∃ q1 q2 q3 q4 q5 q6 b1 b2 : Bool, ((bs u.scheme).toList == ([104, 116, 116, 112, 115] : List UInt8)) = q1 /\ ((bs u.scheme).toList == ([119, 115, 115] : List UInt8)) = q2 /\ ((bs u.scheme).toList == ([102, 105, 108, 101] : List UInt8)) = q3 /\ ((bs u.scheme).toList == ([97, 98, 111, 117, 116] : List UInt8)) = q4 /\ ((bs u.scheme).toList == ([104, 116, 116, 112] : List UInt8)) = q5 /\ ((bs u.scheme).toList == ([119, 115] : List UInt8)) = q6 /\ ((bs u.rest).toList == ([98, 108, 97, 110, 107] : List UInt8)) = b1 /\ ((bs u.rest).toList == ([115, 114, 99, 100, 111, 99] : List UInt8)) = b2 /\
 zwb u = (z6h u && (if (q1 || q2 || q3) = true then true else if q4 = true then (b1 || b2) else (z6v u.scheme && zwa u.host))) /\
 zwb u = (z6h u && (if (q1 || q2 || q3) = true then true else if (q5 || q6) = true then zwa u.host else if q4 = true then (b1 || b2) else false)) := by
 refine ⟨_, _, _, _, _, _, _, _, rfl, rfl, rfl, rfl, rfl, rfl, rfl, rfl, ?_, ?_⟩
 ·simp only [zb3, zb0]
  rfl
 ·simp only [zb3, zb0]
  unfold zwb
  congr 1
  obtain ⟨s, hs⟩ : ∃ s, s = u.scheme := ⟨_, rfl⟩
  rw [<- hs]
  by_cases h5 : s = z6q
  ·rw [h5]
   cases zwa u.host <;> rfl
  ·by_cases h6 : s = sWs
   ·rw [h6]
    cases zwa u.host <;> rfl
   ·have e5 : (s == ([104, 116, 116, 112] : List UInt8)) = false := by rw [beq_eq_false_iff_ne]; exact h5
    have e6 : (s == ([119, 115] : List UInt8)) = false := by rw [beq_eq_false_iff_ne]; exact h6
    have ei : z6t s = false := by unfold z6t; show ((s == ([104, 116, 116, 112] : List UInt8)) || (s == ([119, 115] : List UInt8))) = false; rw [e5, e6]; rfl
    rw [e5, e6]
    unfold z6v
    rw [ei]
    show (if ((s == z6r || s == z6s || s == zv6) = true) then true else _) = (if ((s == z6r || s == z6s || s == zv6) = true) then true else _)
    cases ha : (s == z6r) <;> cases hb : (s == z6s) <;> cases hc : (s == zv6) <;> simp <;> rfl
set_option maxRecDepth 20000 in
theorem zwo (hPar : zfj 84) (hF : zf9 51) (hVal : zft 43) (hCov : zd4 44) (u : Uv) (h : USm u) (w : World) (hw : Uw w) :
 Calls Tryz.prog 27 #[.agg u.cells] w fun e w' => e = .returned (.bool (zwb u)) /\ Below w.heap.size w w' := by
 have hC := z9t u
 have hH : u.host.cells.size = 11 := rfl
 have c1 := fun W hW => z6k hPar hF u h W hW
 have c3 := fun W => zvn hVal hCov u.host W h.wf (Nat.le_trans h.hn (by decide))
 have c2 := fun W => z4j (bs u.scheme) W
 rw [zb0] at c2
 unfold Hv.val at c3
 obtain ⟨q1, q2, q3, q4, q5, q6, b1, b2, t1, t2, t3, t4, t5, t6, t7, t8, eP, eR⟩ := zwn u
 rw [eP]
 have HW := jL hw
 clear eP eR
 generalize z6v u.scheme = sp at *
 generalize zwa u.host = lp at *
 generalize z6h u = vx at *
 generalize u.cells = C at *
 generalize u.host.cells = H at *
 generalize bs u.scheme = S at *
 generalize bs u.user = U at *
 generalize bs u.host.name = N at *
 generalize bs u.rest = R at *
 have hcs : ∀ vx q1 q2 q3 q4 b1 b2 sp : Bool, (vx = true /\ q1 = true) \/ (vx = true /\ q1 = false /\ q2 = true) \/ (vx = true /\ q1 = false /\ q2 = false /\ q3 = true) \/ (vx = true /\ q1 = false /\ q2 = false /\ q3 = false /\ q4 = true /\ b1 = true) \/ (vx = true /\ q1 = false /\ q2 = false /\ q3 = false /\ q4 = true /\ b1 = false /\ b2 = true) \/ (vx = true /\ q1 = false /\ q2 = false /\ q3 = false /\ q4 = true /\ b1 = false /\ b2 = false) \/ (vx = true /\ q1 = false /\ q2 = false /\ q3 = false /\ q4 = false /\ sp = true) \/ (vx = true /\ q1 = false /\ q2 = false /\ q3 = false /\ q4 = false /\ sp = false) \/ (vx = false) := by intro vx q1 q2 q3 q4 b1 b2 sp; cases vx <;> cases q1 <;> cases q2 <;> cases q3 <;> cases q4 <;> cases b1 <;> cases b2 <;> cases sp <;> decide
 rcases hcs vx q1 q2 q3 q4 b1 b2 sp with ⟨rfl, rfl⟩ | ⟨rfl, rfl, rfl⟩ | ⟨rfl, rfl, rfl, rfl⟩ | ⟨rfl, rfl, rfl, rfl, rfl, rfl⟩ | ⟨rfl, rfl, rfl, rfl, rfl, rfl, rfl⟩ | ⟨rfl, rfl, rfl, rfl, rfl, rfl, rfl⟩ | ⟨rfl, rfl, rfl, rfl, rfl, rfl⟩ | ⟨rfl, rfl, rfl, rfl, rfl, rfl⟩ | rfl
 all_goals
  clear hcs
  go_enter Tryz.func27, Tryz.ntmps27
  go_wp2_with (first
   | (refine zax _ rfl 1 rfl _ _ rfl _ C (by exact rfl) (by exact rfl) ?_; intro W1 g1 hg1 hl1 hR1 hG1; have hbw := zav (Below.refl w.heap.size w) hG1 jH)
   | (refine z9o (by rfl) _ rfl g1 (by exact rfl) C hR1 hC.sz ?_)
   | (go_at_call 12; refine (c1 _ (z55 HW.out hbw)).mono ?_; rintro e w5 ⟨rfl, hb5⟩
      replace hR1 : z9m w5 g1 C := Row.below hR1 hb5 (Row.lt hR1)
      replace hbw := hbw.trans (hb5.mono hbw.size)
      clear hb5
      obtain ⟨e0, e1, e3, e13, e14⟩ := hC.cell hR1)
   | (go_at_call 14; refine (c2 _).mono ?_; rintro e w6 ⟨rfl, rfl⟩)
   | refine z9p rfl _ rfl g1 (by exact rfl) C hR1 H hC.hh hH ?_
   | (go_at_call 25; refine (c3 _).mono ?_; rintro e w7 ⟨rfl, hb7⟩; replace hbw := hbw.trans (hb7.mono hbw.size)))
  all_goals
   go_ret
   exact ⟨by first | rfl | simp, hbw⟩
set_option maxRecDepth 20000 in
theorem zwp (u : Uv) (h : USm u) (hl : (z84 u).length <= 99999990) (w : World) (hw : Uw w) :
 Calls Tryz.prog 28 #[.agg u.cells] w fun e w' => e = .returned (.bool (zwb u)) /\ Below w.heap.size w w' := by
 have hC := z9t u
 have hH : u.host.cells.size = 11 := rfl
 have c1 := fun W hW => z92 u h hl W hW
 rw [z91] at c1
 have c3 := fun W => zvo zja zjf u.host W h.wf (Nat.le_trans h.hn (by decide))
 unfold Hv.val at c3
 obtain ⟨q1, q2, q3, q4, q5, q6, b1, b2, t1, t2, t3, t4, t5, t6, t7, t8, eP, eR⟩ := zwn u
 rw [eR]
 have HW := jL hw
 clear eP eR
 generalize z6v u.scheme = sp at *
 generalize zwa u.host = lp at *
 generalize z6h u = vx at *
 generalize u.cells = C at *
 generalize u.host.cells = H at *
 generalize bs u.scheme = S at *
 generalize bs u.user = U at *
 generalize bs u.host.name = N at *
 generalize bs u.rest = R at *
 have hcs : ∀ vx q1 q2 q3 q5 q6 q4 b1 b2 : Bool, (vx = true /\ q1 = true) \/ (vx = true /\ q1 = false /\ q2 = true) \/ (vx = true /\ q1 = false /\ q2 = false /\ q3 = true) \/ (vx = true /\ q1 = false /\ q2 = false /\ q3 = false /\ q5 = true) \/ (vx = true /\ q1 = false /\ q2 = false /\ q3 = false /\ q5 = false /\ q6 = true) \/ (vx = true /\ q1 = false /\ q2 = false /\ q3 = false /\ q5 = false /\ q6 = false /\ q4 = true /\ b1 = true) \/ (vx = true /\ q1 = false /\ q2 = false /\ q3 = false /\ q5 = false /\ q6 = false /\ q4 = true /\ b1 = false /\ b2 = true) \/ (vx = true /\ q1 = false /\ q2 = false /\ q3 = false /\ q5 = false /\ q6 = false /\ q4 = true /\ b1 = false /\ b2 = false) \/ (vx = true /\ q1 = false /\ q2 = false /\ q3 = false /\ q5 = false /\ q6 = false /\ q4 = false) \/ (vx = false) := by intro vx q1 q2 q3 q5 q6 q4 b1 b2; cases vx <;> cases q1 <;> cases q2 <;> cases q3 <;> cases q5 <;> cases q6 <;> cases q4 <;> cases b1 <;> cases b2 <;> decide
 rcases hcs vx q1 q2 q3 q5 q6 q4 b1 b2 with ⟨rfl, rfl⟩ | ⟨rfl, rfl, rfl⟩ | ⟨rfl, rfl, rfl, rfl⟩ | ⟨rfl, rfl, rfl, rfl, rfl⟩ | ⟨rfl, rfl, rfl, rfl, rfl, rfl⟩ | ⟨rfl, rfl, rfl, rfl, rfl, rfl, rfl, rfl⟩ | ⟨rfl, rfl, rfl, rfl, rfl, rfl, rfl, rfl, rfl⟩ | ⟨rfl, rfl, rfl, rfl, rfl, rfl, rfl, rfl, rfl⟩ | ⟨rfl, rfl, rfl, rfl, rfl, rfl, rfl⟩ | rfl
 all_goals
  clear hcs
  go_enter Tryz.func28, Tryz.ntmps28
  go_wp2_with (first
   | (refine zax _ rfl 1 rfl _ _ rfl _ C (by exact rfl) (by exact rfl) ?_; intro W1 g1 hg1 hl1 hR1 hG1; have hbw := zav (Below.refl w.heap.size w) hG1 jH)
   | (refine z9o (by rfl) _ rfl g1 (by exact rfl) C hR1 hC.sz ?_)
   | (go_at_call 13; refine (c1 _ (z55 HW.out hbw)).mono ?_; rintro e w5 ⟨rfl, hb5⟩
      replace hR1 : z9m w5 g1 C := Row.below hR1 hb5 (Row.lt hR1)
      replace hbw := hbw.trans (hb5.mono hbw.size)
      clear hb5
      obtain ⟨e0, e1, e3, e13, e14⟩ := hC.cell hR1)
   | refine z9p rfl _ rfl g1 (by exact rfl) C hR1 H hC.hh hH ?_
   | (go_at_call 26; refine (c3 _).mono ?_; rintro e w7 ⟨rfl, hb7⟩; replace hbw := hbw.trans (hb7.mono hbw.size)))
  all_goals
   go_ret
   exact ⟨by first | rfl | simp, hbw⟩
end

section
open Go.RowKit Go.Shelf
set_option maxHeartbeats 16000000
theorem zva {u : Uv} (h : z6v u.scheme = false) : ofL u = (false, ov0) := by unfold ofL; rw [h, Bool.and_false]; rfl
theorem zvb {u : Uv} (h : z6h u = false) : ofL u = (false, ov0) := by unfold ofL; rw [h]; rfl
theorem zvc {u : Uv} (h : z6v u.scheme = true) (h2 : z6h u = true) : ofL u = (true, ⟨u.scheme, u.host, zv1 u⟩) := by unfold ofL; rw [h, h2]; rfl
def zvd (w : World) (q : Bool × Ov) (e : Ending) (w' : World) : Prop := e = .returned (.tuple #[.agg q.2.cells, .bool q.1]) /\ Below w.heap.size w w'
set_option maxRecDepth 20000 in
theorem zve (hPar : zfj 84) (hF : zf9 51) (u : Uv) (h : USm u) (w : World) (hw : Uw w) :
 Calls Tryz.prog 23 #[.agg u.cells] w (zvd w (ofL u)) := by
 have hC := z9t u
 have hH2 : u.host.cells.size = 11 := rfl
 have c1 := fun W => z4j (bs u.scheme) W
 rw [zb0] at c1
 have c2 := fun W hW => z6k hPar hF u h W hW
 have HW := jL hw
 cases hsp : z6v u.scheme with
 | false =>
   have HE := jL (zva hsp)
   rw [hsp] at c1
   generalize u.cells = C at *
   generalize u.host.cells = H at *
   generalize bs u.scheme = S at *
   generalize bs u.host.name = N at *
   clear hsp h hw c2
   go_enter Tryz.func23, Tryz.ntmps23
   go_wp2_with (first
    | (refine zax _ rfl 1 rfl _ _ rfl _ C (by exact rfl) (by exact rfl) ?_
       intro W1 g1 hg1 hl1 hr1 hG1
       have hbw := zav (Below.refl w.heap.size w) hG1 jH
       obtain ⟨e0, e1, e3, e13, e14⟩ := hC.cell hr1)
    | (refine zay _ rfl 2 rfl _ rfl oz zwr ?_
       intro W2 g2 hg2 hl2 hr2 hG2
       have hne12 : g1 ≠ g2 := by have := Row.lt hr1; omega
       have hle2 : w.heap.size <= g2 := by have := hbw.size; omega
       replace hr1 : z9m W2 g1 C := Row.grown0 hr1 hG2
       replace hr2 : zwu W2 g2 oz := hr2
       replace hbw := zav hbw hG2 jH
       clear e0 e1 e3 e13 e14
       obtain ⟨e0, e1, e3, e13, e14⟩ := hC.cell hr1)
    | (go_at_call 14; refine (c1 _).mono ?_; rintro e w5 ⟨rfl, rfl⟩)
    | (refine zwy rfl rfl _ _ rfl g2 (by exact rfl) oz (by exact rfl) oz hr2 rfl rfl (zwq _ _ _ _ _ _) ?_
       intro w8 hr8 hG8
       have hb8 := zau hbw hG8 jH hle2))
   exact zwz 2 3 rfl g2 rfl oz hr8 rfl _ rfl rfl ⟨by rw [HE.out]; rfl, hb8⟩
 | true =>
 cases hva : z6h u with
 | false =>
   have HE := jL (zvb hva)
   rw [hsp] at c1
   rw [hva] at c2
   generalize u.cells = C at *
   generalize u.host.cells = H at *
   generalize bs u.scheme = S at *
   generalize bs u.host.name = N at *
   clear hsp hva h hw
   go_enter Tryz.func23, Tryz.ntmps23
   go_wp2_with (first
    | (refine zax _ rfl 1 rfl _ _ rfl _ C (by exact rfl) (by exact rfl) ?_
       intro W1 g1 hg1 hl1 hr1 hG1
       have hbw := zav (Below.refl w.heap.size w) hG1 jH
       obtain ⟨e0, e1, e3, e13, e14⟩ := hC.cell hr1)
    | (refine zay _ rfl 2 rfl _ rfl oz zwr ?_
       intro W2 g2 hg2 hl2 hr2 hG2
       have hne12 : g1 ≠ g2 := by have := Row.lt hr1; omega
       have hle2 : w.heap.size <= g2 := by have := hbw.size; omega
       replace hr1 : z9m W2 g1 C := Row.grown0 hr1 hG2
       replace hr2 : zwu W2 g2 oz := hr2
       replace hbw := zav hbw hG2 jH
       clear e0 e1 e3 e13 e14
       obtain ⟨e0, e1, e3, e13, e14⟩ := hC.cell hr1)
    | (go_at_call 14; refine (c1 _).mono ?_; rintro e w5 ⟨rfl, rfl⟩)
    | (refine z9o (by rfl) _ rfl g1 (by exact rfl) C hr1 hC.sz ?_)
    | (go_at_call 12; refine (c2 _ (z55 HW.out hbw)).mono ?_; rintro e wd0 ⟨rfl, hb5⟩
       clear e0 e1 e3 e13 e14
       replace hr1 : z9m wd0 g1 C := Row.below hr1 hb5 (Row.lt hr1)
       replace hr2 : zwu wd0 g2 oz := Row.below hr2 hb5 (Row.lt hr2)
       replace hbw := hbw.trans (hb5.mono hbw.size)
       clear hb5)
    | (refine zwy rfl rfl _ _ rfl g2 (by exact rfl) oz (by exact rfl) oz hr2 rfl rfl (zwq _ _ _ _ _ _) ?_
       intro w8 hr8 hG8
       have hb8 := zau hbw hG8 jH hle2))
   exact zwz 2 3 rfl g2 rfl oz hr8 rfl _ rfl rfl ⟨by rw [HE.out]; rfl, hb8⟩
 | true =>
   rw [hsp] at c1
   rw [hva] at c2
   have c3 := fun W => zuu (bs u.scheme) W (by rw [zb5]; have := h.s1; omega)
   have c5 := fun W => zuu (bs u.host.name) W (by rw [zb5]; have := h.hn; omega)
   have c4 := fun W => z6m u W
   rw [show (if u.port = -1 then z6u u.scheme else u.port) = zv1 u from rfl] at c4
   have HE := jL (zvc hsp hva)
   have hO := zw0 ⟨u.scheme, u.host, zv1 u⟩
   obtain ⟨O, hOe⟩ : ∃ O, O = (Ov.mk u.scheme u.host (zv1 u)).cells := ⟨_, rfl⟩
   rw [<- hOe] at hO
   have HOe := jL hOe
   obtain ⟨sch, us, ⟨k, nm, v4, g⟩, prt, rst⟩ := u
   obtain ⟨x0, x1, x2, x3, x4, x5, x6, x7, rfl⟩ := zf5 g h.wf.2.1
   have HH : Hid ((Hv.mk k nm v4 [x0, x1, x2, x3, x4, x5, x6, x7]).cells = #[.int .i64 k, .string (bs nm), .int .u32 (v4 : Nat), .int .u16 (x0 : Nat), .int .u16 (x1 : Nat), .int .u16 (x2 : Nat), .int .u16 (x3 : Nat), .int .u16 (x4 : Nat), .int .u16 (x5 : Nat), .int .u16 (x6 : Nat), .int .u16 (x7 : Nat)]) := jL rfl
   have HO : Hid (O = #[.string (bs sch), .int .i64 k, .string (bs nm), .int .u32 (v4 : Nat), .int .u16 (x0 : Nat), .int .u16 (x1 : Nat), .int .u16 (x2 : Nat), .int .u16 (x3 : Nat), .int .u16 (x4 : Nat), .int .u16 (x5 : Nat), .int .u16 (x6 : Nat), .int .u16 (x7 : Nat), .int .i64 (zv1 ⟨sch, us, ⟨k, nm, v4, [x0, x1, x2, x3, x4, x5, x6, x7]⟩, prt, rst⟩)]) := jL (by rw [hOe]; rfl)
   clear hOe
   simp only at c1 c2 c3 c4 c5 hC hO hH2
   generalize zv1 ⟨sch, us, ⟨k, nm, v4, [x0, x1, x2, x3, x4, x5, x6, x7]⟩, prt, rst⟩ = q at *
   generalize (Uv.mk sch us ⟨k, nm, v4, [x0, x1, x2, x3, x4, x5, x6, x7]⟩ prt rst).cells = C at *
   generalize (Hv.mk k nm v4 [x0, x1, x2, x3, x4, x5, x6, x7]).cells = H at *
   generalize bs sch = S at *
   generalize bs nm = N at *
   generalize (v4 : Int) = v at *
   generalize (x0 : Int) = y0 at *
   generalize (x1 : Int) = y1 at *
   generalize (x2 : Int) = y2 at *
   generalize (x3 : Int) = y3 at *
   generalize (x4 : Int) = y4 at *
   generalize (x5 : Int) = y5 at *
   generalize (x6 : Int) = y6 at *
   generalize (x7 : Int) = y7 at *
   clear hsp hva h hw
   go_enter Tryz.func23, Tryz.ntmps23
   go_upto_region 3 with (first
    | (refine zax _ rfl 1 rfl _ _ rfl _ C (by exact rfl) (by exact rfl) ?_
       intro W1 g1 hg1 hl1 hr1 hG1
       have hbw := zav (Below.refl w.heap.size w) hG1 jH
       obtain ⟨e0, e1, e3, e13, e14⟩ := hC.cell hr1)
    | (refine zay _ rfl 2 rfl _ rfl oz zwr ?_
       intro W2 g2 hg2 hl2 hr2 hG2
       have hne12 : g1 ≠ g2 := by have := Row.lt hr1; omega
       have hle2 : w.heap.size <= g2 := by have := hbw.size; omega
       replace hr1 : z9m W2 g1 C := Row.grown0 hr1 hG2
       replace hr2 : zwu W2 g2 oz := hr2
       replace hbw := zav hbw hG2 jH
       clear e0 e1 e3 e13 e14
       obtain ⟨e0, e1, e3, e13, e14⟩ := hC.cell hr1)
    | (go_at_call 14; refine (c1 _).mono ?_; rintro e w5 ⟨rfl, rfl⟩)
    | (refine z9o (by rfl) _ rfl g1 (by exact rfl) C hr1 hC.sz ?_)
    | (go_at_call 12; refine (c2 _ (z55 HW.out hbw)).mono ?_; rintro e wd0 ⟨rfl, hb5⟩
       clear e0 e1 e3 e13 e14
       replace hr1 : z9m wd0 g1 C := Row.below hr1 hb5 (Row.lt hr1)
       replace hr2 : zwu wd0 g2 oz := Row.below hr2 hb5 (Row.lt hr2)
       replace hbw := hbw.trans (hb5.mono hbw.size)
       clear hb5))
   go_cut [4] from 15 to 23 (fun p wx => ∃ g4, p = .pointer (some ⟨g4, 0, none⟩) /\ z9m wx g1 C /\ zwu wx g2 oz /\ zwu wx g4 O /\ w.heap.size <= g4 /\ g1 ≠ g4 /\ g2 ≠ g4 /\ Below w.heap.size w wx)
   case first =>
    replace hr1 : z9m wd0.drew g1 C := hr1
    replace hr2 : zwu wd0.drew g2 oz := hr2
    replace hbw := hbw.drew
    refine wp_region_held_drew (S := fun W => z9m W g1 C) (by kernel_rfl) hr1 (fun _ => ?_)
    generalize wd0.drew = wd at *
    refine wpAnyH_take (i := 0) (v := .pointer (some ⟨g1, 0, none⟩)) rfl (by kernel_rfl) (by kernel_rfl) (by kernel_rfl) (fun _ _ _ h => h) (Or.inl ⟨by rfl, fun W hW => by go_simp; try (with_reducible rfl)⟩) hr1 ?_
    try simp only [Act.put, List.getElem_toArray, List.getElem_cons_zero, jqd, jqe, jqf]
    refine wpAnyH_take (i := 1) (v := .string S) rfl (by kernel_rfl) (by kernel_rfl) (by kernel_rfl) (fun _ _ _ h => h) (Or.inl ⟨by rfl, fun W hW => by have h9 := (hC.cell hW).1; go_simp; try (with_reducible rfl)⟩) hr1 ?_
    try simp only [Act.put, List.getElem_toArray, List.getElem_cons_zero, List.getElem_cons_succ, jqd, jqe, jqf]
    refine wpAnyH_take (i := 3) (v := .pointer (some ⟨g1, 2, none⟩)) rfl (by kernel_rfl) (by kernel_rfl) (by kernel_rfl) (fun _ _ _ h => h) (Or.inl ⟨by rfl, fun W hW => by go_simp; try (with_reducible rfl)⟩) hr1 ?_
    try simp only [Act.put, List.getElem_toArray, List.getElem_cons_zero, List.getElem_cons_succ, jqd, jqe, jqf]
    refine wpAnyH_take (i := 4) (v := .agg H) rfl (by kernel_rfl) (by kernel_rfl) (by kernel_rfl) (fun _ _ _ h => h) (z9b _ rfl (by rfl) g1 (by exact rfl) C H (fun W hW => hW) hC.hh hH2) hr1 ?_
    try simp only [Act.put, List.getElem_toArray, List.getElem_cons_zero, List.getElem_cons_succ, jqd, jqe, jqf]
    refine wpAnyH_take (i := 5) (v := .agg C) rfl (by kernel_rfl) (by kernel_rfl) (by kernel_rfl) (fun _ _ _ h => h) (z9a _ rfl (by rfl) g1 (by exact rfl) C (fun W hW => hW) hC.sz) hr1 ?_
    try simp only [Act.put, List.getElem_toArray, List.getElem_cons_zero, List.getElem_cons_succ, jqd, jqe, jqf]
    rw [HH.out]
    refine wpAnyH_ready (rs := [2, 8]) (by kernel_rfl) (by simp) ?_
    refine AllReadyH.cons rfl (fun K hK => ?_) (AllReadyH.cons rfl (fun K hK => ?_) AllReadyH.nil)
    ·go_simp
     go_wp2_with fail
     refine (c3 _).mono ?_
     rintro e wA ⟨rfl, hbA⟩
     replace hr1 : z9m wA g1 C := Row.below hr1 hbA (Row.lt hr1)
     replace hr2 : zwu wA g2 oz := Row.below hr2 hbA (Row.lt hr2)
     replace hbw := hbw.trans (hbA.mono hbw.size)
     clear hbA
     refine hK.out _ _ hr1 (fun _ => ?_)
     clear hK K
     try simp only [Act.put, List.getElem_toArray, List.getElem_cons_zero, List.getElem_cons_succ, jqd, jqe, jqf]
     refine wpAnyH_ready (rs := [6, 8]) (by kernel_rfl) (by simp) ?_
     refine AllReadyH.cons rfl (fun K hK => ?_) (AllReadyH.cons rfl (fun K hK => ?_) AllReadyH.nil)
     ·go_simp
      go_wp2_with fail
      refine (c4 _).mono ?_
      rintro e wA ⟨rfl, hbA⟩
      replace hr1 : z9m wA g1 C := Row.below hr1 hbA (Row.lt hr1)
      replace hr2 : zwu wA g2 oz := Row.below hr2 hbA (Row.lt hr2)
      replace hbw := hbw.trans (hbA.mono hbw.size)
      clear hbA
      refine hK.out _ _ hr1 (fun _ => ?_)
      clear hK K
      try simp only [Act.put, List.getElem_toArray, List.getElem_cons_zero, List.getElem_cons_succ, jqd, jqe, jqf]
      refine wpAnyH_take (i := 7) (v := .agg #[.string S, .int .i64 k, .string N, .int .u32 v, .int .u16 y0, .int .u16 y1, .int .u16 y2, .int .u16 y3, .int .u16 y4, .int .u16 y5, .int .u16 y6, .int .u16 y7, .int .i64 q]) rfl (by kernel_rfl) (by kernel_rfl) (by kernel_rfl) (fun _ _ _ h => h) (Or.inl ⟨by rfl, fun W hW => by go_simp; try (with_reducible rfl)⟩) hr1 ?_
      try simp only [Act.put, List.getElem_toArray, List.getElem_cons_zero, List.getElem_cons_succ, jqd, jqe, jqf]
      refine wpAnyH_ready (rs := [8]) (by kernel_rfl) (by simp) ?_
      refine AllReadyH.cons rfl (fun K hK => ?_) AllReadyH.nil
      refine zw1 rfl rfl (fun W7 g4 hga hgb hr4 hG => ?_)
      have hle4 : w.heap.size <= g4 := by have := hbw.size; omega
      have hne14 : g1 ≠ g4 := by have := Row.lt hr1; omega
      have hne24 : g2 ≠ g4 := by have := Row.lt hr2; omega
      replace hr1 : z9m W7 g1 C := Row.grown0 hr1 hG
      replace hr2 : zwu W7 g2 oz := Row.grown0 hr2 hG
      replace hbw := zav hbw hG jH
      clear hG hga hgb
      refine hK.out _ _ hr1 (fun _ => ?_)
      clear hK K
      try simp only [Act.put, List.getElem_toArray, List.getElem_cons_zero, List.getElem_cons_succ, jqd, jqe, jqf]
      refine wpAnyH_ready (rs := [9]) (by kernel_rfl) (by simp) (AllReadyH.cons rfl (fun K hK => ?_) AllReadyH.nil)
      refine zw2 rfl rfl _ _ rfl g4 (by exact rfl) O (by rw [HO.out]; exact rfl) oz hr4 hO.sz rfl hO.one (fun w8 hr8 hG8 => ?_)
      replace hr1 : z9m w8 g1 C := Row.grown hr1 hG8 hne14
      replace hr2 : zwu w8 g2 oz := Row.grown hr2 hG8 hne24
      replace hbw := zau hbw hG8 jH hle4
      refine hK.out _ _ hr1 (fun _ => ?_)
      clear hK K hG8
      try simp only [Act.put, List.getElem_toArray, List.getElem_cons_zero, List.getElem_cons_succ, jqd, jqe, jqf]
      refine wpAnyH_done (by kernel_rfl) ?_ _
      go_wp2
      go_meet
      exact ⟨g4, rfl, hr1, hr2, hr8, hle4, hne14, hne24, hbw⟩
     ·refine zw1 rfl rfl (fun W7 g4 hga hgb hr4 hG => ?_)
      have hle4 : w.heap.size <= g4 := by have := hbw.size; omega
      have hne14 : g1 ≠ g4 := by have := Row.lt hr1; omega
      have hne24 : g2 ≠ g4 := by have := Row.lt hr2; omega
      replace hr1 : z9m W7 g1 C := Row.grown0 hr1 hG
      replace hr2 : zwu W7 g2 oz := Row.grown0 hr2 hG
      replace hbw := zav hbw hG jH
      clear hG hga hgb
      refine hK.out _ _ hr1 (fun _ => ?_)
      clear hK K
      try simp only [Act.put, List.getElem_toArray, List.getElem_cons_zero, List.getElem_cons_succ, jqd, jqe, jqf]
      refine wpAnyH_ready (rs := [6]) (by kernel_rfl) (by simp) ?_
      refine AllReadyH.cons rfl (fun K hK => ?_) AllReadyH.nil
      go_simp
      go_wp2_with fail
      refine (c4 _).mono ?_
      rintro e wA ⟨rfl, hbA⟩
      replace hr1 : z9m wA g1 C := Row.below hr1 hbA (Row.lt hr1)
      replace hr2 : zwu wA g2 oz := Row.below hr2 hbA (Row.lt hr2)
      replace hr4 : zwu wA g4 oz := Row.below hr4 hbA (Row.lt hr4)
      replace hbw := hbw.trans (hbA.mono hbw.size)
      clear hbA
      refine hK.out _ _ hr1 (fun _ => ?_)
      clear hK K
      try simp only [Act.put, List.getElem_toArray, List.getElem_cons_zero, List.getElem_cons_succ, jqd, jqe, jqf]
      refine wpAnyH_take (i := 7) (v := .agg #[.string S, .int .i64 k, .string N, .int .u32 v, .int .u16 y0, .int .u16 y1, .int .u16 y2, .int .u16 y3, .int .u16 y4, .int .u16 y5, .int .u16 y6, .int .u16 y7, .int .i64 q]) rfl (by kernel_rfl) (by kernel_rfl) (by kernel_rfl) (fun _ _ _ h => h) (Or.inl ⟨by rfl, fun W hW => by go_simp; try (with_reducible rfl)⟩) hr1 ?_
      try simp only [Act.put, List.getElem_toArray, List.getElem_cons_zero, List.getElem_cons_succ, jqd, jqe, jqf]
      refine wpAnyH_ready (rs := [9]) (by kernel_rfl) (by simp) (AllReadyH.cons rfl (fun K hK => ?_) AllReadyH.nil)
      refine zw2 rfl rfl _ _ rfl g4 (by exact rfl) O (by rw [HO.out]; exact rfl) oz hr4 hO.sz rfl hO.one (fun w8 hr8 hG8 => ?_)
      replace hr1 : z9m w8 g1 C := Row.grown hr1 hG8 hne14
      replace hr2 : zwu w8 g2 oz := Row.grown hr2 hG8 hne24
      replace hbw := zau hbw hG8 jH hle4
      refine hK.out _ _ hr1 (fun _ => ?_)
      clear hK K hG8
      try simp only [Act.put, List.getElem_toArray, List.getElem_cons_zero, List.getElem_cons_succ, jqd, jqe, jqf]
      refine wpAnyH_done (by kernel_rfl) ?_ _
      go_wp2
      go_meet
      exact ⟨g4, rfl, hr1, hr2, hr8, hle4, hne14, hne24, hbw⟩
    ·refine zw1 rfl rfl (fun W7 g4 hga hgb hr4 hG => ?_)
     have hle4 : w.heap.size <= g4 := by have := hbw.size; omega
     have hne14 : g1 ≠ g4 := by have := Row.lt hr1; omega
     have hne24 : g2 ≠ g4 := by have := Row.lt hr2; omega
     replace hr1 : z9m W7 g1 C := Row.grown0 hr1 hG
     replace hr2 : zwu W7 g2 oz := Row.grown0 hr2 hG
     replace hbw := zav hbw hG jH
     clear hG hga hgb
     refine hK.out _ _ hr1 (fun _ => ?_)
     clear hK K
     try simp only [Act.put, List.getElem_toArray, List.getElem_cons_zero, List.getElem_cons_succ, jqd, jqe, jqf]
     refine wpAnyH_ready (rs := [2]) (by kernel_rfl) (by simp) ?_
     refine AllReadyH.cons rfl (fun K hK => ?_) AllReadyH.nil
     go_simp
     go_wp2_with fail
     refine (c3 _).mono ?_
     rintro e wA ⟨rfl, hbA⟩
     replace hr1 : z9m wA g1 C := Row.below hr1 hbA (Row.lt hr1)
     replace hr2 : zwu wA g2 oz := Row.below hr2 hbA (Row.lt hr2)
     replace hr4 : zwu wA g4 oz := Row.below hr4 hbA (Row.lt hr4)
     replace hbw := hbw.trans (hbA.mono hbw.size)
     clear hbA
     refine hK.out _ _ hr1 (fun _ => ?_)
     clear hK K
     try simp only [Act.put, List.getElem_toArray, List.getElem_cons_zero, List.getElem_cons_succ, jqd, jqe, jqf]
     refine wpAnyH_ready (rs := [6]) (by kernel_rfl) (by simp) ?_
     refine AllReadyH.cons rfl (fun K hK => ?_) AllReadyH.nil
     go_simp
     go_wp2_with fail
     refine (c4 _).mono ?_
     rintro e wA ⟨rfl, hbA⟩
     replace hr1 : z9m wA g1 C := Row.below hr1 hbA (Row.lt hr1)
     replace hr2 : zwu wA g2 oz := Row.below hr2 hbA (Row.lt hr2)
     replace hr4 : zwu wA g4 oz := Row.below hr4 hbA (Row.lt hr4)
     replace hbw := hbw.trans (hbA.mono hbw.size)
     clear hbA
     refine hK.out _ _ hr1 (fun _ => ?_)
     clear hK K
     try simp only [Act.put, List.getElem_toArray, List.getElem_cons_zero, List.getElem_cons_succ, jqd, jqe, jqf]
     refine wpAnyH_take (i := 7) (v := .agg #[.string S, .int .i64 k, .string N, .int .u32 v, .int .u16 y0, .int .u16 y1, .int .u16 y2, .int .u16 y3, .int .u16 y4, .int .u16 y5, .int .u16 y6, .int .u16 y7, .int .i64 q]) rfl (by kernel_rfl) (by kernel_rfl) (by kernel_rfl) (fun _ _ _ h => h) (Or.inl ⟨by rfl, fun W hW => by go_simp; try (with_reducible rfl)⟩) hr1 ?_
     try simp only [Act.put, List.getElem_toArray, List.getElem_cons_zero, List.getElem_cons_succ, jqd, jqe, jqf]
     refine wpAnyH_ready (rs := [9]) (by kernel_rfl) (by simp) (AllReadyH.cons rfl (fun K hK => ?_) AllReadyH.nil)
     refine zw2 rfl rfl _ _ rfl g4 (by exact rfl) O (by rw [HO.out]; exact rfl) oz hr4 hO.sz rfl hO.one (fun w8 hr8 hG8 => ?_)
     replace hr1 : z9m w8 g1 C := Row.grown hr1 hG8 hne14
     replace hr2 : zwu w8 g2 oz := Row.grown hr2 hG8 hne24
     replace hbw := zau hbw hG8 jH hle4
     refine hK.out _ _ hr1 (fun _ => ?_)
     clear hK K hG8
     try simp only [Act.put, List.getElem_toArray, List.getElem_cons_zero, List.getElem_cons_succ, jqd, jqe, jqf]
     refine wpAnyH_done (by kernel_rfl) ?_ _
     go_wp2
     go_meet
     exact ⟨g4, rfl, hr1, hr2, hr8, hle4, hne14, hne24, hbw⟩
   case rest =>
    obtain ⟨g4, rfl, hr1, hr2, hr4, hle4, hne14, hne24, hbw⟩ := hcut
    obtain ⟨e0, e1, e3, e13, e14⟩ := hC.cell hr1
    obtain ⟨f0, f2, f12⟩ := hO.cell hr4
    have fz := Row.frozen9 hr4 2
    go_wp2_with (first
     | (go_at_call 42; refine (c5 _).mono ?_; rintro e w9 ⟨rfl, hb9⟩
        clear e0 e1 e3 e13 e14 f0 f2 f12 fz
        replace hr4 : zwu w9 g4 O := Row.below hr4 hb9 (Row.lt hr4)
        replace hr2 : zwu w9 g2 oz := Row.below hr2 hb9 (Row.lt hr2)
        replace hbw := hbw.trans (hb9.mono hbw.size)
        clear hb9
        have fz := Row.frozen9 hr4 2
        obtain ⟨f0, f2, f12⟩ := hO.cell hr4)
     | (refine zww (by rfl) _ rfl g4 (by exact rfl) O (Row.set_same9 hr4 hO.c2) hO.sz ?_)
     | (refine zwy rfl rfl _ _ rfl g2 (by exact rfl) O (by exact rfl) oz (Row.set_other9 hr2 hne24) rfl hO.sz hO.one ?_
        intro w8 hr8 hG8
        have hb8 := zau (hbw.setCell (p := ⟨g4, 2, none⟩) hle4 _) hG8 jH hle2))
    exact zwz 2 3 rfl g2 rfl O hr8 hO.sz _ rfl rfl ⟨by rw [HE.out, HOe.out]; rfl, hb8⟩
end

end Go.Proofs.YtekaljeicfjkjaaGreatDoor
