/-
parse, Parse, Valid, Format of package url.
Parse, Valid, Format, Port, Insecure of package url.
Upgrade of package url.
What is parsed is small and good.
The reference's small functions of package url.
Contract of Digits of the reference of layer 1.
Contracts of digit, number, parts and decimal of the reference of layer 10.
-/
import Derived.Test.YtekaljeicfjkjaaGreatDoorB25
import Derived.Test.YtekaljeicfjkjaaGreatDoorB07
import Derived.Test.YtekaljeicfjkjaaGreatDoorB01
import Derived.Test.YtekaljeicfjkjaaGreatDoorB19
import Derived.Test.YtekaljeicfjkjaaGreatDoorB02
import Derived.BigQuiet
namespace Go.Proofs.YtekaljeicfjkjaaGreatDoor
section
open Go.RowKit Go.Shelf
theorem z4f (u : Uv) : u.cells.size = 15 := rfl
theorem z4g (u : Uv) : u.cells.all (·.oneCell') = true := z75 _ _ _ _ _ _ _ _
theorem z4h (l : List UInt8) : (zbk l).length = l.length := by unfold zbk; simp
set_option maxRecDepth 20000 in
set_option maxHeartbeats 4000000 in
theorem z4i (hPar : zfg 84) (s : ByteArray) (w : World) (zs : s.size ≤ 999999999) (hw : Uw w) :
 Calls Tryz.prog 36 #[.string s] w (z39 w (z5t (ls s))) := by
 have c1 := fun W => z2s s W (by omega)
 by_cases h1 : (ls s).any z5f = true
 ·have HP : Hid (z5t (ls s) = (4, uv0)) := Lib.hid (by unfold z5t; rw [if_pos h1])
  rw [h1] at c1
  clear h1 hw
  go_enter Tryz.func36, Tryz.ntmps36
  go_wp2_with (first
   | (refine zay _ rfl 2 rfl _ rfl uz z3y ?_
      intro W1 g2 hg2 hl2 hr2 hG
      have hbw := zav (Below.refl w.heap.size w) hG (Nat.le_refl _))
   | (go_at_call 53; refine (c1 _).mono ?_; rintro e w5 ⟨rfl, hb5⟩
      replace hr2 : z8b w5 g2 uz := Row.below hr2 hb5 (Row.lt hr2)
      replace hbw := hbw.trans (hb5.mono hbw.size)
      clear hb5)
   | (refine z8f rfl rfl _ _ rfl g2 (by exact rfl) uz (by exact rfl) uz hr2 rfl rfl (z75 _ _ _ _ _ _ _ _) ?_
      intro w7 hr7 hG7
      have hb7 := zau hbw hG7 (Nat.le_refl _) hg2))
  exact z8g 2 3 rfl g2 rfl uz hr7 rfl _ rfl rfl ⟨by rw [HP.out]; rfl, hb7⟩
 ·have h1' : (ls s).any z5f = false := by simpa using h1
  rw [h1'] at c1
  have hP0 : z5t (ls s) = if ((ls s).any (isB 58) && z5i (zcx (isB 58) (ls s))) = true then
   (if z5d (zbk (zcx (isB 58) (ls s))) = true then z5s (zbk (zcx (isB 58) (ls s))) ((zcy (isB 58) (ls s)).drop 1) else (0, ⟨zbk (zcx (isB 58) (ls s)), [], hv0, -1, (zcy (isB 58) (ls s)).drop 1⟩)) else (15, uv0) := by
   unfold z5t
   rw [if_neg h1]
  have c2 := fun W => zcw s 58 W (by omega)
  unfold zcu at c2
  have hlb := z4b (isB 58) (ls s)
  rw [zb4] at hlb
  have hld : ((zcy (isB 58) (ls s)).drop 1).length ≤ 999999999 := by rw [List.length_drop]; omega
  generalize (zcy (isB 58) (ls s)).drop 1 = R at *
  generalize zcx (isB 58) (ls s) = B at *
  generalize (ls s).any (isB 58) = q at *
  have hlB : B.length ≤ 999999999 := by omega
  have zB : (bs B).size ≤ 1000000000 := by rw [zb5]; omega
  have zR : (bs R).size ≤ 999999999 := by rw [zb5]; exact hld
  have c3 := fun W => z2q (bs B) W zB
  rw [zb0] at c3
  have HP0 := Lib.hid hP0
  have HW := Lib.hid hw
  clear h1 h1' hP0 hlb hld hw
  by_cases hq : (q && z5i B) = true
  ·obtain ⟨rfl, hs⟩ : q = true ∧ z5i B = true := by simpa using hq
   rw [hs] at c3
   have c5 := fun W => zba (bs B) W zB
   have eL : zbl (bs B) = bs (zbk B) := rfl
   rw [eL] at c5
   have hLl := z4h B
   have HP1 : Hid (z5t (ls s) = if z5d (zbk B) = true then z5s (zbk B) R else (0, ⟨zbk B, [], hv0, -1, R⟩)) := Lib.hid (by rw [HP0.out, if_pos hq])
   generalize zbk B = L at *
   have zL : (bs L).size ≤ 1000000000 := by rw [zb5]; omega
   have c6 := fun W => z2l (bs L) W
   rw [zb0] at c6
   clear hq hs eL hLl HP0
   by_cases hsp : z5d L = true
   ·rw [hsp] at c6
    have HP : Hid (z5t (ls s) = z5s L R) := Lib.hid (by rw [HP1.out, if_pos hsp])
    have c7 := fun W hW => z4e hPar (bs L) (bs R) W zL zR hW
    unfold z39 at c7
    rw [zb0, zb0] at c7
    have hC := z4f (z5s L R).2
    have hC1 := z4g (z5s L R).2
    obtain ⟨C, hCe⟩ : ∃ C, C = (z5s L R).2.cells := ⟨_, rfl⟩
    obtain ⟨n, hn⟩ : ∃ n, n = (z5s L R).1 := ⟨_, rfl⟩
    rw [← hCe] at c7 hC hC1
    rw [← hn] at c7
    have HC := Lib.hid hCe
    have HN := Lib.hid hn
    clear hsp hCe hn HP1
    go_enter Tryz.func36, Tryz.ntmps36
    go_wp2_with (first
     | (refine zay _ rfl 2 rfl _ rfl uz z3y ?_
        intro W1 g2 hg2 hl2 hr2 hG
        have hbw := zav (Below.refl w.heap.size w) hG (Nat.le_refl _))
     | (go_at_call 53; refine (c1 _).mono ?_; rintro e w5 ⟨rfl, hb5⟩
        replace hr2 : z8b w5 g2 uz := Row.below hr2 hb5 (Row.lt hr2)
        replace hbw := hbw.trans (hb5.mono hbw.size)
        clear hb5)
     | (go_at_call 55; refine (c2 _).mono ?_; rintro e w5 ⟨rfl, hb5⟩
        replace hr2 : z8b w5 g2 uz := Row.below hr2 hb5 (Row.lt hr2)
        replace hbw := hbw.trans (hb5.mono hbw.size)
        clear hb5)
     | (go_at_call 56; refine (c3 _).mono ?_; rintro e w5 ⟨rfl, rfl⟩)
     | (go_at_call 57; refine (c5 _).mono ?_; rintro e w5 ⟨rfl, hb5⟩
        replace hr2 : z8b w5 g2 uz := Row.below hr2 hb5 (Row.lt hr2)
        replace hbw := hbw.trans (hb5.mono hbw.size)
        clear hb5)
     | (go_at_call 14; refine (c6 _).mono ?_; rintro e w5 ⟨rfl, rfl⟩)
     | (go_at_call 58; refine (c7 _ (z38 HW.out hbw)).mono ?_; rintro e w5 ⟨rfl, hb5⟩
        replace hr2 : z8b w5 g2 uz := Row.below hr2 hb5 (Row.lt hr2)
        replace hbw := hbw.trans (hb5.mono hbw.size)
        clear hb5)
     | (refine z8f rfl rfl _ _ rfl g2 (by exact rfl) C (by exact rfl) uz hr2 rfl hC hC1 ?_
        intro w7 hr7 hG7
        have hb7 := zau hbw hG7 (Nat.le_refl _) hg2))
    exact z8g 2 3 rfl g2 rfl C hr7 hC _ rfl rfl ⟨by rw [HP.out, ← HC.out, ← HN.out]; rfl, hb7⟩
   ·have hsp' : z5d L = false := by simpa using hsp
    rw [hsp'] at c6
    have HP : Hid (z5t (ls s) = (0, ⟨L, [], hv0, -1, R⟩)) := Lib.hid (by rw [HP1.out, if_neg hsp])
    have c7 := fun W => zup (bs R) W (by omega)
    have hC : (Uv.mk L [] hv0 (-1) R).cells = #[.string (bs L), .string ⟨#[]⟩, .int .i64 0, .string ⟨#[]⟩, .int .u32 0, .int .u16 0, .int .u16 0, .int .u16 0, .int .u16 0, .int .u16 0, .int .u16 0, .int .u16 0, .int .u16 0, .int .i64 (-1), .string (bs R)] := rfl
    have hC1 := z4g (Uv.mk L [] hv0 (-1) R)
    rw [hC] at hC1
    have HC := Lib.hid hC
    clear hsp hsp' HP1 hC
    go_enter Tryz.func36, Tryz.ntmps36
    go_wp2_with (first
     | (refine zay _ rfl 2 rfl _ rfl uz z3y ?_
        intro W1 g2 hg2 hl2 hr2 hG
        have hbw := zav (Below.refl w.heap.size w) hG (Nat.le_refl _))
     | (go_at_call 53; refine (c1 _).mono ?_; rintro e w5 ⟨rfl, hb5⟩
        replace hr2 : z8b w5 g2 uz := Row.below hr2 hb5 (Row.lt hr2)
        replace hbw := hbw.trans (hb5.mono hbw.size)
        clear hb5)
     | (go_at_call 55; refine (c2 _).mono ?_; rintro e w5 ⟨rfl, hb5⟩
        replace hr2 : z8b w5 g2 uz := Row.below hr2 hb5 (Row.lt hr2)
        replace hbw := hbw.trans (hb5.mono hbw.size)
        clear hb5)
     | (go_at_call 56; refine (c3 _).mono ?_; rintro e w5 ⟨rfl, rfl⟩)
     | (go_at_call 57; refine (c5 _).mono ?_; rintro e w5 ⟨rfl, hb5⟩
        replace hr2 : z8b w5 g2 uz := Row.below hr2 hb5 (Row.lt hr2)
        replace hbw := hbw.trans (hb5.mono hbw.size)
        clear hb5)
     | (go_at_call 14; refine (c6 _).mono ?_; rintro e w5 ⟨rfl, rfl⟩)
     | (go_at_call 42; refine (c7 _).mono ?_; rintro e w5 ⟨rfl, hb5⟩
        replace hr2 : z8b w5 g2 uz := Row.below hr2 hb5 (Row.lt hr2)
        replace hbw := hbw.trans (hb5.mono hbw.size)
        clear hb5)
     | (refine z8f rfl rfl _ _ rfl g2 (by exact rfl) _ (by exact rfl) uz hr2 rfl rfl hC1 ?_
        intro w7 hr7 hG7
        have hb7 := zau hbw hG7 (Nat.le_refl _) hg2))
    exact z8g 2 3 rfl g2 rfl _ hr7 rfl _ rfl rfl ⟨by rw [HP.out]; show _ = Ending.returned (.tuple #[.agg (Uv.mk L [] hv0 (-1) R).cells, .int .i64 0]); rw [HC.out]; rfl, hb7⟩
  ·have HP : Hid (z5t (ls s) = (15, uv0)) := Lib.hid (by rw [HP0.out, if_neg hq])
   cases q <;> (
    first
     | (have hq2 : z5i B = false := by simpa using hq
        rw [hq2] at c3
        clear hq2)
     | skip
    clear hq
    go_enter Tryz.func36, Tryz.ntmps36
    go_wp2_with (first
     | (refine zay _ rfl 2 rfl _ rfl uz z3y ?_
        intro W1 g2 hg2 hl2 hr2 hG
        have hbw := zav (Below.refl w.heap.size w) hG (Nat.le_refl _))
     | (go_at_call 53; refine (c1 _).mono ?_; rintro e w5 ⟨rfl, hb5⟩
        replace hr2 : z8b w5 g2 uz := Row.below hr2 hb5 (Row.lt hr2)
        replace hbw := hbw.trans (hb5.mono hbw.size)
        clear hb5)
     | (go_at_call 55; refine (c2 _).mono ?_; rintro e w5 ⟨rfl, hb5⟩
        replace hr2 : z8b w5 g2 uz := Row.below hr2 hb5 (Row.lt hr2)
        replace hbw := hbw.trans (hb5.mono hbw.size)
        clear hb5)
     | (go_at_call 56; refine (c3 _).mono ?_; rintro e w5 ⟨rfl, rfl⟩)
     | (refine z8f rfl rfl _ _ rfl g2 (by exact rfl) uz (by exact rfl) uz hr2 rfl rfl (z75 _ _ _ _ _ _ _ _) ?_
        intro w7 hr7 hG7
        have hb7 := zau hbw hG7 (Nat.le_refl _) hg2))
    exact z8g 2 3 rfl g2 rfl uz hr7 rfl _ rfl rfl ⟨by rw [HP.out]; rfl, hb7⟩)
end

section
open Go.RowKit Go.Shelf
set_option maxRecDepth 20000 in
set_option maxHeartbeats 2000000 in
theorem z4j (hPar : zfg 84) (s : ByteArray) (w : World) (_ : s.size ≤ maxLen) (hw : Uw w) :
 Calls Tryz.prog 33 #[.string s] w (z39 w (z5u (ls s))) := by
 by_cases h1 : 2048 < s.size
 ·have HP : Hid (z5u (ls s) = (3, uv0)) := Lib.hid (by unfold z5u; rw [zb4, if_pos h1])
  have hd : decide ((2048 : Int) < (s.size : Int)) = true := decide_eq_true (by omega)
  clear h1 hw
  go_enter Tryz.func33, Tryz.ntmps33
  go_wp2_with (first
   | (refine zay _ rfl 2 rfl _ rfl uz z3y ?_
      intro W1 g2 hg2 hl2 hr2 hG
      have hbw := zav (Below.refl w.heap.size w) hG (Nat.le_refl _))
   | (refine z8f rfl rfl _ _ rfl g2 (by exact rfl) uz (by exact rfl) uz hr2 rfl rfl (z75 _ _ _ _ _ _ _ _) ?_
      intro w7 hr7 hG7
      have hb7 := zau hbw hG7 (Nat.le_refl _) hg2))
  exact z8g 2 3 rfl g2 rfl uz hr7 rfl _ rfl rfl ⟨by rw [HP.out]; rfl, hb7⟩
 ·have HP : Hid (z5u (ls s) = z5t (ls s)) := Lib.hid (by unfold z5u; rw [zb4, if_neg h1])
  have hd : decide ((2048 : Int) < (s.size : Int)) = false := decide_eq_false (by omega)
  have c7 := fun W hW => z4i hPar s W (by omega) hW
  unfold z39 at c7
  have hC := z4f (z5t (ls s)).2
  have hC1 := z4g (z5t (ls s)).2
  obtain ⟨C, hCe⟩ : ∃ C, C = (z5t (ls s)).2.cells := ⟨_, rfl⟩
  obtain ⟨n, hn⟩ : ∃ n, n = (z5t (ls s)).1 := ⟨_, rfl⟩
  rw [← hCe] at c7 hC hC1
  rw [← hn] at c7
  have HC := Lib.hid hCe
  have HN := Lib.hid hn
  have HW := Lib.hid hw
  clear h1 hCe hn hw
  go_enter Tryz.func33, Tryz.ntmps33
  go_wp2_with (first
   | (refine zay _ rfl 2 rfl _ rfl uz z3y ?_
      intro W1 g2 hg2 hl2 hr2 hG
      have hbw := zav (Below.refl w.heap.size w) hG (Nat.le_refl _))
   | (go_at_call 36; refine (c7 _ (z38 HW.out hbw)).mono ?_; rintro e w5 ⟨rfl, hb5⟩
      replace hr2 : z8b w5 g2 uz := Row.below hr2 hb5 (Row.lt hr2)
      replace hbw := hbw.trans (hb5.mono hbw.size)
      clear hb5)
   | (refine z8f rfl rfl _ _ rfl g2 (by exact rfl) C (by exact rfl) uz hr2 rfl hC hC1 ?_
      intro w7 hr7 hG7
      have hb7 := zau hbw hG7 (Nat.le_refl _) hg2))
  exact z8g 2 3 rfl g2 rfl C hr7 hC _ rfl rfl ⟨by rw [HP.out, ← HC.out, ← HN.out]; rfl, hb7⟩
theorem z4k (l : List UInt8) : (z5t l).2.host.Wf := by
 have h0 : hv0.Wf := ziu
 have hs : ∀ sch r, (z5s sch r).2.host.Wf := by
  intro sch r
  unfold z5s
  split
  ·unfold z5r
   split
   ·exact h0
   ·unfold z5q
    split
    ·split
     ·exact h0
     ·exact (ziv _).1
    ·exact h0
  ·exact h0
 unfold z5t
 split
 ·exact h0
 ·split
  ·split
   ·exact hs _ _
   ·exact h0
  ·exact h0
def z4l (u : Uv) : Bool := decide ((z5t (z32 u)).1 = 0) && eqU (z5t (z32 u)).2 u
structure USm (u : Uv) : Prop where
 wf : u.host.Wf
 hn : u.host.name.length ≤ 100000000
 s1 : u.scheme.length ≤ 100000000
 s2 : u.user.length ≤ 100000000
 s3 : u.rest.length ≤ 100000000
 p0 : -9223372036854775808 ≤ u.port
 p1 : u.port ≤ 9223372036854775807
theorem z4m {u : Uv} (h : USm u) : (z32 u).length ≤ 999999999 := by
 have h1 := h.hn; have h2 := h.s1; have h3 := h.s2; have h4 := h.s3
 have h5 := zgq h.wf
 have h6 := Lib.itoa_length_le _ h.p0 h.p1
 have h7 : (z31 u.port).length ≤ 22 := by unfold z31; split <;> simp; omega
 have h8 : (z5v u.user).length ≤ u.user.length + 1 := by unfold z5v; split <;> simp
 unfold z32
 split
 ·simp only [List.length_append, List.length_cons]
  omega
 ·simp only [List.length_append, List.length_cons]
  omega
theorem z4n (hF : zf6 51) {u : Uv} (h : USm u) (w : World) (hP : zu8 w) :
 Calls Tryz.prog 34 #[.agg u.cells] w fun e w' => e = .returned (.string (bs (z32 u))) ∧ Below w.heap.size w w' := by
 have h1 := h.hn; have h2 := h.s1; have h3 := h.s2; have h4 := h.s3
 exact z37 hF u h.wf (by omega) (by omega) (by omega) (by omega) h.p0 h.p1 w hP
set_option maxRecDepth 20000 in
set_option maxHeartbeats 2000000 in
theorem z4o (hPar : zfg 84) (hF : zf6 51) (u : Uv) (h : USm u) (w : World) (hw : Uw w) :
 Calls Tryz.prog 12 #[.agg u.cells] w fun e w' => e = .returned (.bool (z4l u)) ∧ Below w.heap.size w w' := by
 have c1 := fun W hW => z4n hF h W hW
 have c2 := fun W hW => z4i hPar (bs (z32 u)) W (by rw [zb5]; exact z4m h) hW
 unfold z39 at c2
 rw [zb0] at c2
 have hE := fun W => z8o (z5t (z32 u)).2 u (z4k _) h.wf W
 have hv : z4l u = (decide ((z5t (z32 u)).1 = 0) && eqU (z5t (z32 u)).2 u) := rfl
 have hC := z4f u
 have hC1 := z4g u
 have hD := z4f (z5t (z32 u)).2
 have hD1 := z4g (z5t (z32 u)).2
 generalize eqU (z5t (z32 u)).2 u = b at *
 generalize (z5t (z32 u)).1 = n at *
 generalize (z5t (z32 u)).2.cells = D at *
 generalize u.cells = C at *
 generalize bs (z32 u) = T at *
 have HV := Lib.hid hv
 have HW := Lib.hid hw
 generalize z4l u = V at *
 clear h hv hw
 by_cases hn : n = 0
 ·subst hn
  go_enter Tryz.func12, Tryz.ntmps12
  go_wp2_with (first
   | (refine zax _ rfl 1 rfl _ _ rfl _ C (by exact rfl) (by exact rfl) ?_; intro W1 g1 hg1 hl1 hR1 hG1; have hbw := zav (Below.refl w.heap.size w) hG1 (Nat.le_refl _))
   | (refine z8d (by rfl) _ rfl g1 (by exact rfl) C hR1 hC ?_)
   | (go_at_call 34; refine (c1 _ (z38 HW.out hbw).1.1).mono ?_; rintro e w5 ⟨rfl, hb5⟩
      replace hR1 : z8b w5 g1 C := Row.below hR1 hb5 (Row.lt hR1)
      replace hbw := hbw.trans (hb5.mono hbw.size)
      clear hb5)
   | (go_at_call 36; refine (c2 _ (z38 HW.out hbw)).mono ?_; rintro e w6 ⟨rfl, hb6⟩
      replace hR1 : z8b w6 g1 C := Row.below hR1 hb6 (Row.lt hR1)
      replace hbw := hbw.trans (hb6.mono hbw.size)
      clear hb6)
   | (refine zay _ rfl 3 rfl _ rfl uz z3y ?_
      intro W3 g3 hg3 hl3 hr3 hG3
      have hne : g1 ≠ g3 := by have := Row.lt hR1; omega
      replace hR1 : z8b W3 g1 C := Row.grown0 hR1 hG3
      have h3 : w.heap.size ≤ g3 := by have := hbw.size; omega
      replace hbw := zav hbw hG3 (Nat.le_refl _))
   | (refine z8f rfl rfl _ _ rfl g3 (by exact rfl) D (by exact rfl) uz hr3 rfl hD hD1 ?_
      intro w7 hr7 hG7
      replace hR1 : z8b w7 g1 C := Row.grown hR1 hG7 hne
      replace hbw := zau hbw hG7 (Nat.le_refl _) h3)
   | (refine z8d (by rfl) _ rfl g3 (by exact rfl) D hr7 hD ?_))
  go_ret
  have e : V = b := HV.out.trans (by simp)
  exact ⟨by rw [e]; rfl, hbw⟩
 ·have hn0 : ((n : Int) == 0) = false := by rw [beq_eq_false_iff_ne]; omega
  have e : Hid (V = false) := Lib.hid (HV.out.trans (by simp [hn]))
  clear hn HV
  go_enter Tryz.func12, Tryz.ntmps12
  go_wp2_with (first
   | (refine zax _ rfl 1 rfl _ _ rfl _ C (by exact rfl) (by exact rfl) ?_; intro W1 g1 hg1 hl1 hR1 hG1; have hbw := zav (Below.refl w.heap.size w) hG1 (Nat.le_refl _))
   | (refine z8d (by rfl) _ rfl g1 (by exact rfl) C hR1 hC ?_)
   | (go_at_call 34; refine (c1 _ (z38 HW.out hbw).1.1).mono ?_; rintro e w5 ⟨rfl, hb5⟩
      replace hR1 : z8b w5 g1 C := Row.below hR1 hb5 (Row.lt hR1)
      replace hbw := hbw.trans (hb5.mono hbw.size)
      clear hb5)
   | (go_at_call 36; refine (c2 _ (z38 HW.out hbw)).mono ?_; rintro e w6 ⟨rfl, hb6⟩
      replace hR1 : z8b w6 g1 C := Row.below hR1 hb6 (Row.lt hR1)
      replace hbw := hbw.trans (hb6.mono hbw.size)
      clear hb6)
   | (refine zay _ rfl 3 rfl _ rfl uz z3y ?_
      intro W3 g3 hg3 hl3 hr3 hG3
      have hne : g1 ≠ g3 := by have := Row.lt hR1; omega
      replace hR1 : z8b W3 g1 C := Row.grown0 hR1 hG3
      have h3 : w.heap.size ≤ g3 := by have := hbw.size; omega
      replace hbw := zav hbw hG3 (Nat.le_refl _))
   | (refine z8f rfl rfl _ _ rfl g3 (by exact rfl) D (by exact rfl) uz hr3 rfl hD hD1 ?_
      intro w7 hr7 hG7
      replace hR1 : z8b w7 g1 C := Row.grown hR1 hG7 hne
      replace hbw := zau hbw hG7 (Nat.le_refl _) h3)
   | (refine z8d (by rfl) _ rfl g3 (by exact rfl) D hr7 hD ?_))
  go_ret
  exact ⟨by rw [e.out]; rfl, hbw⟩
set_option maxRecDepth 20000 in
set_option maxHeartbeats 2000000 in
theorem z4p (hPar : zfg 84) (hF : zf6 51) (u : Uv) (h : USm u) (w : World) (hw : Uw w) :
 Calls Tryz.prog 10 #[.agg u.cells] w fun e w' => e = .returned (.string (if z4l u = true then bs (z32 u) else ⟨#[]⟩)) ∧ Below w.heap.size w w' := by
 have c1 := fun W hW => z4n hF h W hW
 have c2 := fun W hW => z4o hPar hF u h W hW
 have hC := z4f u
 generalize u.cells = C at *
 generalize bs (z32 u) = T at *
 have HW := Lib.hid hw
 generalize z4l u = V at *
 clear h hw
 cases V <;> (
  go_enter Tryz.func10, Tryz.ntmps10
  go_wp2_with (first
   | (refine zax _ rfl 1 rfl _ _ rfl _ C (by exact rfl) (by exact rfl) ?_; intro W1 g1 hg1 hl1 hR1 hG1; have hbw := zav (Below.refl w.heap.size w) hG1 (Nat.le_refl _))
   | (refine z8d (by rfl) _ rfl g1 (by exact rfl) C hR1 hC ?_)
   | (go_at_call 12; refine (c2 _ (z38 HW.out hbw)).mono ?_; rintro e w5 ⟨rfl, hb5⟩
      replace hR1 : z8b w5 g1 C := Row.below hR1 hb5 (Row.lt hR1)
      replace hbw := hbw.trans (hb5.mono hbw.size)
      clear hb5)
   | (go_at_call 34; refine (c1 _ (z38 HW.out hbw).1.1).mono ?_; rintro e w5 ⟨rfl, hb5⟩
      replace hR1 : z8b w5 g1 C := Row.below hR1 hb5 (Row.lt hR1)
      replace hbw := hbw.trans (hb5.mono hbw.size)
      clear hb5))
  go_ret
  exact ⟨rfl, hbw⟩)
theorem z4q (u : Uv) (w : World) :
 Calls Tryz.prog 18 #[.agg u.cells] w fun e w' => e = .returned (.int .i64 (if u.port = -1 then z5c u.scheme else u.port)) ∧ Below w.heap.size w w' := by
 have hC := z8i u
 have c1 := fun W => z2h (bs u.scheme) W
 rw [zb0] at c1
 generalize u.cells = C at *
 generalize u.host.cells = H at *
 generalize bs u.scheme = S at *
 generalize z5c u.scheme = z at *
 generalize u.port = p at *
 by_cases hp : p = -1
 ·have hq : (p != -1) = false := by rw [hp]; rfl
  rw [if_pos hp]
  clear hp
  go_enter Tryz.func18, Tryz.ntmps18
  go_wp2_with (first
   | (refine zax _ rfl 1 rfl _ _ rfl _ C (by exact rfl) (by exact rfl) ?_; intro W1 g1 hg1 hl1 hR1 hG1; have hbw := zav (Below.refl w.heap.size w) hG1 (Nat.le_refl _)
      obtain ⟨e0, e1, e3, e13, e14⟩ := hC.cell hR1)
   | (go_at_call 38; refine (c1 _).mono ?_; rintro e w5 ⟨rfl, rfl⟩))
  go_ret
  exact ⟨rfl, hbw⟩
 ·have hq : (p != -1) = true := by rw [bne, beq_eq_false_iff_ne.2 hp]; rfl
  rw [if_neg hp]
  clear hp
  go_enter Tryz.func18, Tryz.ntmps18
  go_wp2_with (refine zax _ rfl 1 rfl _ _ rfl _ C (by exact rfl) (by exact rfl) ?_; intro W1 g1 hg1 hl1 hR1 hG1; have hbw := zav (Below.refl w.heap.size w) hG1 (Nat.le_refl _)
               obtain ⟨e0, e1, e3, e13, e14⟩ := hC.cell hR1)
  go_ret
  exact ⟨rfl, hbw⟩
theorem z4r (u : Uv) (w : World) :
 Calls Tryz.prog 16 #[.agg u.cells] w fun e w' => e = .returned (.bool (z5b u.scheme)) ∧ Below w.heap.size w w' := by
 have hC := z8i u
 have c1 := fun W => z2j (bs u.scheme) W
 rw [zb0] at c1
 generalize u.cells = C at *
 generalize u.host.cells = H at *
 generalize bs u.scheme = S at *
 generalize z2i u.scheme = Z at *
 generalize z5b u.scheme = q at *
 go_enter Tryz.func16, Tryz.ntmps16
 go_wp2_with (first
  | (refine zax _ rfl 1 rfl _ _ rfl _ C (by exact rfl) (by exact rfl) ?_; intro W1 g1 hg1 hl1 hR1 hG1; have hbw := zav (Below.refl w.heap.size w) hG1 (Nat.le_refl _)
     obtain ⟨e0, e1, e3, e13, e14⟩ := hC.cell hR1)
  | (go_at_call 39; refine (c1 _).mono ?_; rintro e w5 ⟨rfl, rfl⟩))
 go_ret
 exact ⟨rfl, hbw⟩
end

section
open Go.RowKit Go.Shelf
theorem Row.set9 {w : World} {g k : Nat} {t : TypeId} {c : Array Value} {v : Value} (h : Row w g t c) : Row (w.setCell ⟨g, k, none⟩ v) g t (c.setIfInBounds k v) := by
 rw [setCell_eq_setRow w g k c t (0, 0) v h]
 exact setRow_heap w g c _ t _ h
theorem z4s {u : Uv} (h : z5b u.scheme = false) : (upU u).cells = u.cells := by unfold upU; rw [h]; rfl
theorem z4t {u : Uv} (h : z5b u.scheme = true) (hp : u.port = 443) : (upU u).cells = (u.cells.setIfInBounds 0 (.string (bs (z5e u.scheme)))).setIfInBounds 13 (.int .i64 (-1)) := by
 unfold upU
 rw [if_pos h, if_pos hp]
 rfl
theorem z4u {u : Uv} (h : z5b u.scheme = true) (hp : u.port ≠ 443) : (upU u).cells = u.cells.setIfInBounds 0 (.string (bs (z5e u.scheme))) := by
 unfold upU
 rw [if_pos h, if_neg hp]
 rfl
theorem z4v {c : Array Value} {k : Nat} {v : Value} (h : c.all (·.oneCell') = true) (hv : v.oneCell' = true) : (c.setIfInBounds k v).all (·.oneCell') = true := by
 rw [Array.all_eq_true] at h ⊢
 intro i hi
 rw [Array.getElem_setIfInBounds]
 split
 ·exact hv
 ·exact h i (by simpa using hi)
set_option maxRecDepth 20000 in
set_option maxHeartbeats 2000000 in
theorem z4w (u : Uv) (h : USm u) (w : World) :
 Calls Tryz.prog 20 #[.agg u.cells] w fun e w' => e = .returned (.agg (upU u).cells) ∧ Below w.heap.size w w' := by
 have hC := z8i u
 have c1 := fun W => z2j (bs u.scheme) W
 rw [zb0] at c1
 have c2 := fun W => z3z hC (by rw [zb5]; have := h.s1; omega) (by rw [zb5]; have := h.s2; omega) (by rw [zb5]; have := h.hn; omega) (by rw [zb5]; have := h.s3; omega) W
 cases hi : z5b u.scheme with
 | false =>
   rw [z4s hi]
   rw [hi] at c1
   generalize u.cells = C at *
   generalize u.host.cells = H at *
   generalize bs u.scheme = S at *
   generalize z2i u.scheme = Z at *
   clear hi h
   go_enter Tryz.func20, Tryz.ntmps20
   go_wp2_with (first
    | (refine zax _ rfl 1 rfl _ _ rfl _ C (by exact rfl) (by exact rfl) ?_; intro W1 g1 hg1 hl1 hR1 hG1; have hbw := zav (Below.refl w.heap.size w) hG1 (Nat.le_refl _))
    | (refine zay _ rfl 2 rfl _ rfl uz z3y ?_
       intro W2 g2 hg2 hl2 hR2 hG2
       have hne12 : g1 ≠ g2 := by omega
       have h2 : w.heap.size ≤ g2 := by have := hbw.size; omega
       replace hR1 : z8b W2 g1 C := Row.grown0 hR1 hG2
       replace hR2 : z8b W2 g2 uz := hR2
       replace hbw := zav hbw hG2 (Nat.le_refl _))
    | (refine z8d (by rfl) _ rfl g1 (by exact rfl) C hR1 hC.sz ?_)
    | (go_at_call 41; refine (c2 _).mono ?_; rintro e w5 ⟨rfl, hb5⟩
       replace hR1 : z8b w5 g1 C := Row.below hR1 hb5 (Row.lt hR1)
       replace hR2 : z8b w5 g2 uz := Row.below hR2 hb5 (Row.lt hR2)
       replace hbw := hbw.trans (hb5.mono hbw.size)
       clear hb5)
    | (refine zay _ rfl 3 rfl _ rfl uz z3y ?_
       intro W3 g3 hg3 hl3 hR3 hG3
       have hne13 : g1 ≠ g3 := by have := Row.lt hR1; omega
       have hne23 : g2 ≠ g3 := by have := Row.lt hR2; omega
       have h3 : w.heap.size ≤ g3 := by have := hbw.size; omega
       replace hR1 : z8b W3 g1 C := Row.grown0 hR1 hG3
       replace hR2 : z8b W3 g2 uz := Row.grown0 hR2 hG3
       replace hbw := zav hbw hG3 (Nat.le_refl _))
    | (refine z8f rfl rfl _ _ rfl g3 (by exact rfl) C (by exact rfl) uz hR3 rfl hC.sz hC.one ?_
       intro w7 hr7 hG7
       replace hR1 : z8b w7 g1 C := Row.grown hR1 hG7 hne13
       replace hR2 : z8b w7 g2 uz := Row.grown hR2 hG7 hne23
       replace hbw := zau hbw hG7 (Nat.le_refl _) h3
       obtain ⟨e0, e1, e3, e13, e14⟩ := hC.cell hR1)
    | (go_at_call 39; refine (c1 _).mono ?_; rintro e w5 ⟨rfl, rfl⟩)
    | (refine z8d (by rfl) _ rfl g3 (by exact rfl) C hr7 hC.sz ?_)
    | (refine z8f rfl rfl _ _ rfl g2 (by exact rfl) C (by exact rfl) uz hR2 rfl hC.sz hC.one ?_
       intro w8 hr8 hG8
       have hb8 := zau hbw hG8 (Nat.le_refl _) h2))
   exact z8h 2 rfl g2 rfl C hr8 hC.sz rfl ⟨rfl, hb8⟩
 | true =>
   have hsec := (z6j _ hi).2.2.2.2.2.1
   have eZ : z2i u.scheme = bs (z5e u.scheme) := by unfold z2i; rw [if_pos hi]
   have c3 := fun W => z2h (bs (z5e u.scheme)) W
   rw [zb0, hsec] at c3
   rw [hi, eZ] at c1
   obtain ⟨p, hp⟩ : ∃ p, p = u.port := ⟨_, rfl⟩
   have hU1 := fun h => z4t (u := u) hi h
   have hU2 := fun h => z4u (u := u) hi h
   rw [← hp] at hC hU1 hU2
   generalize (upU u).cells = D at *
   generalize u.cells = C at *
   generalize u.host.cells = H at *
   generalize bs u.scheme = S at *
   generalize bs (z5e u.scheme) = Z at *
   clear hi h hsec eZ hp
   have HU1 := Lib.hid hU1
   have HU2 := Lib.hid hU2
   clear hU1 hU2
   go_enter Tryz.func20, Tryz.ntmps20
   go_wp2_with (first
    | (refine zax _ rfl 1 rfl _ _ rfl _ C (by exact rfl) (by exact rfl) ?_; intro W1 g1 hg1 hl1 hR1 hG1; have hbw := zav (Below.refl w.heap.size w) hG1 (Nat.le_refl _))
    | (refine zay _ rfl 2 rfl _ rfl uz z3y ?_
       intro W2 g2 hg2 hl2 hR2 hG2
       have hne12 : g1 ≠ g2 := by omega
       have h2 : w.heap.size ≤ g2 := by have := hbw.size; omega
       replace hR1 : z8b W2 g1 C := Row.grown0 hR1 hG2
       replace hR2 : z8b W2 g2 uz := hR2
       replace hbw := zav hbw hG2 (Nat.le_refl _))
    | (refine z8d (by rfl) _ rfl g1 (by exact rfl) C hR1 hC.sz ?_)
    | (go_at_call 41; refine (c2 _).mono ?_; rintro e w5 ⟨rfl, hb5⟩
       replace hR1 : z8b w5 g1 C := Row.below hR1 hb5 (Row.lt hR1)
       replace hR2 : z8b w5 g2 uz := Row.below hR2 hb5 (Row.lt hR2)
       replace hbw := hbw.trans (hb5.mono hbw.size)
       clear hb5)
    | (refine zay _ rfl 3 rfl _ rfl uz z3y ?_
       intro W3 g3 hg3 hl3 hR3 hG3
       have hne13 : g1 ≠ g3 := by have := Row.lt hR1; omega
       have hne23 : g2 ≠ g3 := by have := Row.lt hR2; omega
       have h3 : w.heap.size ≤ g3 := by have := hbw.size; omega
       replace hR1 : z8b W3 g1 C := Row.grown0 hR1 hG3
       replace hR2 : z8b W3 g2 uz := Row.grown0 hR2 hG3
       replace hbw := zav hbw hG3 (Nat.le_refl _))
    | (refine z8f rfl rfl _ _ rfl g3 (by exact rfl) C (by exact rfl) uz hR3 rfl hC.sz hC.one ?_
       intro w7 hr7 hG7
       replace hR1 : z8b w7 g1 C := Row.grown hR1 hG7 hne13
       replace hR2 : z8b w7 g2 uz := Row.grown hR2 hG7 hne23
       replace hbw := zau hbw hG7 (Nat.le_refl _) h3
       obtain ⟨e0, e1, e3, e13, e14⟩ := hC.cell hR1
       have k0 := (hC.cell hr7).1
       have fz := Row.frozen9 hr7 0)
    | (go_at_call 39; refine (c1 _).mono ?_; rintro e w5 ⟨rfl, rfl⟩))
   clear k0 fz e0 e1 e3 e13 e14
   replace hr7 : z8b (w7.setCell ⟨g3, 0, none⟩ (.string Z)) g3 (C.setIfInBounds 0 (.string Z)) := Row.set9 hr7
   replace hR1 : z8b (w7.setCell ⟨g3, 0, none⟩ (.string Z)) g1 C := Row.set_other9 hR1 hne13
   replace hR2 : z8b (w7.setCell ⟨g3, 0, none⟩ (.string Z)) g2 uz := Row.set_other9 hR2 hne23
   replace hbw := hbw.setCell (p := ⟨g3, 0, none⟩) h3 (.string Z)
   obtain ⟨w9, hw9⟩ : ∃ W, W = w7.setCell ⟨g3, 0, none⟩ (.string Z) := ⟨_, rfl⟩
   rw [← hw9] at hr7 hR1 hR2 hbw ⊢
   clear hw9
   have e13 := (hC.cell hR1).2.2.2.1
   have z1 : (C.setIfInBounds 0 (.string Z)).size = 15 := by rw [Array.size_setIfInBounds]; exact hC.sz
   have o1 : (C.setIfInBounds 0 (.string Z)).all (·.oneCell') = true := z4v hC.one rfl
   by_cases hp : p = 443
   ·have hq : (p == 443) = true := by rw [hp]; rfl
    have HD := Lib.hid (HU1.out hp)
    generalize C.setIfInBounds 0 (.string Z) = C1 at *
    have z2 : (C1.setIfInBounds 13 (.int .i64 (-1))).size = 15 := by rw [Array.size_setIfInBounds]; exact z1
    have o2 : (C1.setIfInBounds 13 (.int .i64 (-1))).all (·.oneCell') = true := z4v o1 rfl
    clear hp
    go_quiet ((go_at_call 38; exact z2v (c3 _)))
    clear e13
    replace hr7 : z8b (w9.drewN nq) g3 C1 := Row.below hr7 (below_drewN w9 nq) (Row.lt hr7)
    replace hR2 : z8b (w9.drewN nq) g2 uz := Row.below hR2 (below_drewN w9 nq) (Row.lt hR2)
    replace hbw := hbw.trans ((below_drewN w9 nq).mono hbw.size)
    generalize w9.drewN nq = w10 at *
    go_wp2_with (first
     | (refine za1 _ rfl rfl _ _ _ rfl g3 13 (by exact rfl) _ rfl rfl _ C1 hr7 (by rw [z1]; decide) (by exact z8a) ?_
        intro w11 hr11 hG11
        replace hR2 : z8b w11 g2 uz := Row.grown hR2 hG11 hne23
        replace hbw := zau hbw hG11 (Nat.le_refl _) h3)
     | (refine z8d (by rfl) _ rfl g3 (by exact rfl) _ hr11 z2 ?_)
     | (refine z8f rfl rfl _ _ rfl g2 (by exact rfl) (C1.setIfInBounds 13 (.int .i64 (-1))) (by exact rfl) uz hR2 rfl z2 o2 ?_
        intro w12 hr12 hG12
        have hb12 := zau hbw hG12 (Nat.le_refl _) h2))
    exact z8h 2 rfl g2 rfl _ hr12 z2 rfl ⟨by rw [HD.out], hb12⟩
   ·have hq : (p == 443) = false := by rw [beq_eq_false_iff_ne]; exact hp
    have HD := Lib.hid (HU2.out hp)
    generalize C.setIfInBounds 0 (.string Z) = C1 at *
    clear hp
    go_quiet ((go_at_call 38; exact z2v (c3 _)))
    clear e13
    replace hr7 : z8b (w9.drewN nq) g3 C1 := Row.below hr7 (below_drewN w9 nq) (Row.lt hr7)
    replace hR2 : z8b (w9.drewN nq) g2 uz := Row.below hR2 (below_drewN w9 nq) (Row.lt hR2)
    replace hbw := hbw.trans ((below_drewN w9 nq).mono hbw.size)
    generalize w9.drewN nq = w10 at *
    go_wp2_with (first
     | (refine z8d (by rfl) _ rfl g3 (by exact rfl) C1 hr7 z1 ?_)
     | (refine z8f rfl rfl _ _ rfl g2 (by exact rfl) C1 (by exact rfl) uz hR2 rfl z1 o1 ?_
        intro w12 hr12 hG12
        have hb12 := zau hbw hG12 (Nat.le_refl _) h2))
    exact z8h 2 rfl g2 rfl C1 hr12 z1 rfl ⟨by rw [HD.out], hb12⟩
end

section
open Go.RowKit Go.Shelf
theorem z68 {u : Uv} (h : UGood u) : -1 ≤ u.port := by
 cases hs : z5d u.scheme with
 | true =>
   have := (h.spec hs).2.2.2
   rcases this with h1 | h1
   ·omega
   ·have := h1.1; omega
 | false =>
   have := (h.plain hs).2.2
   omega
theorem z69 {u : Uv} (h : UGood u) : z4l u = true := by
 unfold z4l
 rw [z33 (z68 h), z6h h]
 simp [z8n]
end

section
open Go.RowKit Go.Shelf
theorem z64 (s : ByteArray) (w : World) : Calls Tryz.prog 40 #[.string s] w fun e w' => e = .returned (.int .i64 (z5c (ls s))) ∧ w = w' := by
 obtain ⟨q1, q2, q3, q4, t1, t2, t3, t4, _, _, e, _⟩ := z2g s
 rw [e]
 clear e
 cases q1 with
 | true =>
   go_enter Tryz.func40, Tryz.ntmps40
   go_wp2
   go_ret
   exact ⟨rfl, rfl⟩
 | false =>
   cases q2 with
   | true =>
     go_enter Tryz.func40, Tryz.ntmps40
     go_wp2
     go_ret
     exact ⟨rfl, rfl⟩
   | false =>
     cases q3 with
     | true =>
       go_enter Tryz.func40, Tryz.ntmps40
       go_wp2
       go_ret
       exact ⟨rfl, rfl⟩
     | false =>
       cases q4 with
       | true =>
         go_enter Tryz.func40, Tryz.ntmps40
         go_wp2
         go_ret
         exact ⟨rfl, rfl⟩
       | false =>
         go_enter Tryz.func40, Tryz.ntmps40
         go_wp2
         go_ret
         exact ⟨rfl, rfl⟩
theorem z65 (s : ByteArray) (w : World) : Calls Tryz.prog 15 #[.string s] w fun e w' => e = .returned (.bool (z5d (ls s))) ∧ w = w' := by
 obtain ⟨q1, q2, q3, q4, t1, t2, t3, t4, _, e, _, _⟩ := z2g s
 rw [e]
 clear e
 cases q1 <;> cases q2 <;> cases q3 <;> cases q4 <;> (
  go_enter Tryz.func15, Tryz.ntmps15
  go_wp2
  go_ret
  exact ⟨rfl, rfl⟩)
theorem z66 (u : Uv) (w : World) : Calls Tryz.prog 17 #[.agg u.cells] w fun e w' => e = .returned (.bool (z5b u.scheme)) ∧ Below w.heap.size w w' := by
 have hC := z8i u
 obtain ⟨q1, q2, q3, q4, t1, t2, t3, t4, e, _, _, _⟩ := z2g (bs u.scheme)
 rw [zb0] at e
 rw [e]
 generalize u.cells = C at *
 generalize u.host.cells = H at *
 generalize bs u.scheme = S at *
 clear e t3 t4
 cases q1 <;> cases q2 <;> (
  go_enter Tryz.func17, Tryz.ntmps17
  go_wp2_with (first
   | (refine zax _ rfl 1 rfl _ _ rfl _ C (by exact rfl) (by exact rfl) ?_; intro W1 g1 hg1 hl1 hR1 hG1; have hbw := zav (Below.refl w.heap.size w) hG1 (Nat.le_refl _)
      obtain ⟨e0, e1, e3, e13, e14⟩ := hC.cell hR1))
  go_ret
  exact ⟨rfl, hbw⟩)
theorem z67 (u : Uv) (w : World) :
 Calls Tryz.prog 19 #[.agg u.cells] w fun e w' => e = .returned (.int .i64 (if u.port = -1 then z5c u.scheme else u.port)) ∧ Below w.heap.size w w' := by
 have hC := z8i u
 have c1 := fun W => z64 (bs u.scheme) W
 rw [zb0] at c1
 generalize u.cells = C at *
 generalize u.host.cells = H at *
 generalize bs u.scheme = S at *
 generalize z5c u.scheme = z at *
 generalize u.port = p at *
 by_cases hp : p = -1
 ·have hq : (p != -1) = false := by rw [hp]; rfl
  rw [if_pos hp]
  clear hp
  go_enter Tryz.func19, Tryz.ntmps19
  go_wp2_with (first
   | (refine zax _ rfl 1 rfl _ _ rfl _ C (by exact rfl) (by exact rfl) ?_; intro W1 g1 hg1 hl1 hR1 hG1; have hbw := zav (Below.refl w.heap.size w) hG1 (Nat.le_refl _)
      obtain ⟨e0, e1, e3, e13, e14⟩ := hC.cell hR1)
   | (go_at_call 40; refine (c1 _).mono ?_; rintro e w5 ⟨rfl, rfl⟩))
  go_ret
  exact ⟨rfl, hbw⟩
 ·have hq : (p != -1) = true := by rw [bne, beq_eq_false_iff_ne.2 hp]; rfl
  rw [if_neg hp]
  clear hp
  go_enter Tryz.func19, Tryz.ntmps19
  go_wp2_with (first
   | (refine zax _ rfl 1 rfl _ _ rfl _ C (by exact rfl) (by exact rfl) ?_; intro W1 g1 hg1 hl1 hR1 hG1; have hbw := zav (Below.refl w.heap.size w) hG1 (Nat.le_refl _)
      obtain ⟨e0, e1, e3, e13, e14⟩ := hC.cell hR1))
  go_ret
  exact ⟨rfl, hbw⟩
end

section
open Go.RowKit
set_option maxHeartbeats 1000000 in
theorem zzt (s : ByteArray) (w : World) (hs : s.size ≤ 1000000000) :
 Calls Tryz.prog 120 #[.string s] w fun e w' => e = .returned (.bool (zbq s)) ∧ w = w' := by
 go_enter Tryz.func120, Tryz.ntmps120
 go_wp2
 go_loop [3] (fun i => ∃ k : Nat, k ≤ s.size ∧ i = .int .i64 k ∧ ((ls s).take k).all zbe = true) (fun i => s.size - (intOf i).toNat)
 case atStart => exact ⟨0, Nat.zero_le _, rfl, rfl⟩
 case round =>
  obtain ⟨k, hk, rfl, hall⟩ := hrel
  have HA := Lib.hid hall
  clear hall
  by_cases hlt : k < s.size
  ·by_cases h1 : (s[k].toNat : Int) < 48
   ·have HF := Lib.hid (zbr s k hlt (by simp [zbe, zbc]; omega))
    go_wp2
    go_ret
    exact ⟨zbx HF.out.symm, rfl⟩
   ·by_cases h2 : 57 < (s[k].toNat : Int)
    ·have HF := Lib.hid (zbr s k hlt (by simp [zbe, zbc]; omega))
     go_wp2
     go_ret
     exact ⟨zbx HF.out.symm, rfl⟩
    ·have HD : Hid (zbe s[k] = true) := by show _ = _; simp [zbe, zbc]; omega
     go_wp2
     go_round
     case rel => exact ⟨k + 1, by omega, by go_num, zbt zbe s k hlt HA.out HD.out⟩
     case measure => simp [intOf]; omega
  ·obtain rfl : k = s.size := by omega
   have HF := Lib.hid (zbs s HA.out)
   go_wp2
   go_ret
   exact ⟨zbx (by rw [HF.out, zb3]), rfl⟩
end

section
open Go.RowKit
set_option maxHeartbeats 1000000 in
theorem zpb (c : UInt8) (w : World) :
 Calls Tryz.prog 156 #[.int .u8 (c.toNat : Int)] w fun e w' => e = .returned (.int .i64 (zqc c : Nat)) ∧ w = w' := by
 have hl := zce c
 obtain ⟨y, hy⟩ : ∃ y : Int, y = (c.toNat : Int) := ⟨_, rfl⟩
 have hy0 : 0 ≤ y := by omega
 rw [← hy] at hl ⊢
 have HY := Lib.hid hy
 clear hy
 by_cases h1 : (48 : Int) ≤ y ∧ y ≤ 57
 ·obtain ⟨h1, h2⟩ := h1
  have HV : Hid (y - 48 = (zqc c : Nat)) := by show _ = _; have := HY.out; unfold zqc; rw [if_pos (by omega)]; omega
  go_enter Tryz.func156, Tryz.ntmps156
  go_wp2
  go_ret
  exact ⟨zby HV.out, rfl⟩
 ·by_cases h2 : (97 : Int) ≤ y ∧ y ≤ 102
  ·obtain ⟨h2, h3⟩ := h2
   have h4 : ¬ y ≤ 57 := by omega
   have h5 : (48 : Int) ≤ y := by omega
   have HV : Hid (y - 97 + 10 = (zqc c : Nat)) := by show _ = _; have := HY.out; unfold zqc; rw [if_neg (by omega), if_pos (by omega)]; omega
   clear h1
   go_enter Tryz.func156, Tryz.ntmps156
   go_wp2
   go_ret
   exact ⟨zby HV.out, rfl⟩
  ·by_cases h3 : (65 : Int) ≤ y ∧ y ≤ 70
   ·obtain ⟨h3, h4⟩ := h3
    have h5 : ¬ y ≤ 57 := by omega
    have h6 : (48 : Int) ≤ y := by omega
    have h7 : ¬ (97 : Int) ≤ y := by omega
    have HV : Hid (y - 65 + 10 = (zqc c : Nat)) := by show _ = _; have := HY.out; unfold zqc; rw [if_neg (by omega), if_neg (by omega), if_pos (by omega)]; omega
    clear h1 h2
    go_enter Tryz.func156, Tryz.ntmps156
    go_wp2
    go_ret
    exact ⟨zby HV.out, rfl⟩
   ·have HV : Hid ((99 : Int) = (zqc c : Nat)) := by show _ = _; have := HY.out; unfold zqc; rw [if_neg (by omega), if_neg (by omega), if_neg (by omega)]; rfl
    by_cases g1 : (48 : Int) ≤ y
    ·have g2 : ¬ y ≤ 57 := fun h => h1 ⟨g1, h⟩
     by_cases g3 : (65 : Int) ≤ y
     ·have g4 : ¬ y ≤ 70 := fun h => h3 ⟨g3, h⟩
      by_cases g5 : (97 : Int) ≤ y
      ·have g6 : ¬ y ≤ 102 := fun h => h2 ⟨g5, h⟩
       clear h1 h2 h3
       go_enter Tryz.func156, Tryz.ntmps156
       go_wp2
       go_ret
       exact ⟨zby HV.out, rfl⟩
      ·clear h1 h2 h3
       go_enter Tryz.func156, Tryz.ntmps156
       go_wp2
       go_ret
       exact ⟨zby HV.out, rfl⟩
     ·have g5 : ¬ (97 : Int) ≤ y := by omega
      clear h1 h2 h3
      go_enter Tryz.func156, Tryz.ntmps156
      go_wp2
      go_ret
      exact ⟨zby HV.out, rfl⟩
    ·have g3 : ¬ (65 : Int) ≤ y := by omega
     have g5 : ¬ (97 : Int) ≤ y := by omega
     clear h1 h2 h3
     go_enter Tryz.func156, Tryz.ntmps156
     go_wp2
     go_ret
     exact ⟨zby HV.out, rfl⟩
set_option maxHeartbeats 1000000 in
theorem zpc (s : ByteArray) (w : World) (hs : s.size ≤ 1000000000) :
 Calls Tryz.prog 119 #[.string s] w (z1w (zqb (ls s)) w) := by
 have hspl := zz9 s 46 w hs
 have hpos := z1g 46 (ls s)
 have hlen := z1i 46 (ls s)
 rw [zb4] at hlen
 have HP : Hid (zqb (ls s) = if 1 < (z1e 46 (ls s)).length ∧ (z1e 46 (ls s)).getLast? = some [] then (z1e 46 (ls s)).dropLast else z1e 46 (ls s)) := Lib.hid rfl
 have HLAST := Lib.hid (z1z hpos)
 generalize z1e 46 (ls s) = P at *
 obtain ⟨n, hn⟩ : ∃ n, n = P.length := ⟨_, rfl⟩
 go_enter Tryz.func119, Tryz.ntmps119
 go_wp2_with fail
 refine hspl.mono ?_
 rintro e w1 ⟨v, m, rfl, hown, hb⟩
 obtain ⟨A, c, rfl, hh, hmc⟩ := Has.of_own hown
 obtain rfl : m = n := by have := hh.1; rw [z2d] at this; omega
 clear hspl hown
 obtain ⟨b, off, rfl, hcell⟩ := z1x hh (m - 1) (by omega)
 by_cases h1 : 1 < m
 ·have hd : decide ((1 : Int) < (m : Int)) = true := decide_eq_true (by omega)
  have hm1 : (m : Int) - 1 = ((m - 1 : Nat) : Int) := by omega
  obtain ⟨k, hk⟩ : ∃ k, k = m - 1 := ⟨_, rfl⟩
  rw [← hk] at hcell hm1
  have hkm : k < m := by omega
  have hkb : k ≤ 1000000001 := by omega
  have hmb : m ≤ 1000000001 := by omega
  have hkc : k ≤ c := by omega
  have hbe := z10 (P.getD k [])
  obtain ⟨X, hX⟩ : ∃ X, X = bs (P.getD k []) := ⟨_, rfl⟩
  rw [← hX] at hbe hcell
  clear hX
  by_cases h2 : P.getD k [] = []
  ·have hlast : P.getLast? = some [] := by
    rw [HLAST.out, ← hn, ← hk]
    rw [List.getD_eq_getElem?_getD, List.getElem?_eq_getElem (by omega), Option.getD_some] at h2 ⊢
    exact h2
   have HQ : Hid (zqb (ls s) = P.take k) := by
    show _ = _
    rw [HP.out, if_pos ⟨by omega, hlast⟩, List.dropLast_eq_take, ← hn, hk]
   rw [decide_eq_true h2] at hbe
   have HN := Lib.hid hn
   have hh2 := hh.take k (by omega)
   have HK := Lib.hid hk
   clear hn hk h2 hlast
   go_wp2
   go_ret
   have hl : (P.take k).length = k := by have := HN.out; have := HK.out; simp; omega
   refine ⟨some ⟨b, off, none⟩, c, ?_, ?_, ?_, hb⟩
   ·rw [HQ.out, hl]; rfl
   ·rw [HQ.out, hl]; exact hkc
   ·rw [HQ.out, hl]
    have e : wv (P.take k) = (wv P).take k := by simp [wv, List.map_take]
    rw [e]; exact hh2
  ·have hlast : ¬ P.getLast? = some [] := by
    rw [HLAST.out, ← hn, ← hk]
    rw [List.getD_eq_getElem?_getD, List.getElem?_eq_getElem (by omega), Option.getD_some] at h2 ⊢
    exact h2
   have HQ : Hid (zqb (ls s) = P) := by
    show _ = _
    rw [HP.out, if_neg (fun h => hlast h.2)]
   rw [decide_eq_false h2] at hbe
   have HN := Lib.hid hn
   clear hn hk h2 hlast
   go_wp2
   go_ret
   refine ⟨some ⟨b, off, none⟩, c, ?_, ?_, ?_, hb⟩
   ·rw [HQ.out, ← HN.out]; rfl
   ·rw [HQ.out, ← HN.out]; exact hmc
   ·rw [HQ.out, ← HN.out]; exact hh
 ·have hd : decide ((1 : Int) < (m : Int)) = false := decide_eq_false (by omega)
  have HQ : Hid (zqb (ls s) = P) := by
   show _ = _
   rw [HP.out, if_neg (fun h => h1 (by omega))]
  have HN := Lib.hid hn
  clear hn
  go_wp2
  go_ret
  refine ⟨some ⟨b, off, none⟩, c, ?_, ?_, ?_, hb⟩
  ·rw [HQ.out, ← HN.out]; rfl
  ·rw [HQ.out, ← HN.out]; exact hmc
  ·rw [HQ.out, ← HN.out]; exact hh
end

end Go.Proofs.YtekaljeicfjkjaaGreatDoor
