/-
parse, Parse, Valid, Format of package url.
Parse, Valid, Format, Port, Insecure of package url.
Upgrade of package url.
What is parsed is small and good.
Origins in plain words.
URLs' variables in regions that draw their order; what an upgrade keeps.
-/
import Derived.Test.YtekaljeicfjkjaaGreatDoorJ24
import Derived.Deep.RegionHeld3
namespace Go.Proofs.YtekaljeicfjkjaaGreatDoor
section
open Go.RowKit Go.Shelf
set_option maxHeartbeats 16000000
theorem z5k (u : Uv) : u.cells.size = 15 := rfl
theorem z5l (u : Uv) : u.cells.all (·.oneCell') = true := z8u _ _ _ _ _ _ _ _
theorem z5m (l : List UInt8) : (zbk l).length = l.length := by unfold zbk; simp
set_option maxRecDepth 20000 in
theorem z5n (hPar : zff 84) (s : ByteArray) (w : World) (zs : s.size <= 999999999) (hw : Uw w) :
 Calls Tryz.prog 36 #[.string s] w (z5e w (z6l (ls s))) := by
 have c1 := fun W => z3y s W (by omega)
 by_cases h1 : (ls s).any z57 = true
 ·have HP : Hid (z6l (ls s) = (4, uv0)) := jL (by unfold z6l; rw [if_pos h1])
  rw [h1] at c1
  clear h1 hw
  go_enter Tryz.func36, Tryz.ntmps36
  go_wp2_with (first
   | (refine zay _ rfl 2 rfl _ rfl uz z43 ?_
      intro W1 g2 hg2 hl2 hr2 hG
      have hbw := zav (Below.refl w.heap.size w) hG jH)
   | (go_at_call 53; refine (c1 _).mono ?_; rintro e w5 ⟨rfl, hb5⟩
      replace hr2 : z80 w5 g2 uz := Row.below hr2 hb5 (Row.lt hr2)
      replace hbw := hbw.trans (hb5.mono hbw.size)
      clear hb5)
   | (refine z84 rfl rfl _ _ rfl g2 (by exact rfl) uz (by exact rfl) uz hr2 rfl rfl (z8u _ _ _ _ _ _ _ _) ?_
      intro w7 hr7 hG7
      have hb7 := zau hbw hG7 jH hg2))
  exact z85 2 3 rfl g2 rfl uz hr7 rfl _ rfl rfl ⟨by rw [HP.out]; rfl, hb7⟩
 ·have h1' : (ls s).any z57 = false := by simpa using h1
  rw [h1'] at c1
  have hP0 : z6l (ls s) = if ((ls s).any (isB 58) && z6a (zcx (isB 58) (ls s))) = true then
   (if z55 (zbk (zcx (isB 58) (ls s))) = true then z6k (zbk (zcx (isB 58) (ls s))) ((zcy (isB 58) (ls s)).drop 1) else (0, ⟨zbk (zcx (isB 58) (ls s)), [], hv0, -1, (zcy (isB 58) (ls s)).drop 1⟩)) else (15, uv0) := by
   unfold z6l
   rw [if_neg h1]
  have c2 := fun W => zcw s 58 W (by omega)
  unfold zcu at c2
  have hlb := z5g (isB 58) (ls s)
  rw [zb4] at hlb
  have hld : ((zcy (isB 58) (ls s)).drop 1).length <= 999999999 := by rw [List.length_drop]; omega
  generalize (zcy (isB 58) (ls s)).drop 1 = R at *
  generalize zcx (isB 58) (ls s) = B at *
  generalize (ls s).any (isB 58) = q at *
  have hlB : B.length <= 999999999 := by omega
  have zB : (bs B).size <= 1000000000 := by rw [zb5]; omega
  have zR : (bs R).size <= 999999999 := by rw [zb5]; exact hld
  have c3 := fun W => z3w (bs B) W zB
  rw [zb0] at c3
  have HP0 := jL hP0
  have HW := jL hw
  clear h1 h1' hP0 hlb hld hw
  by_cases hq : (q && z6a B) = true
  ·obtain ⟨rfl, hs⟩ : q = true /\ z6a B = true := by simpa using hq
   rw [hs] at c3
   have c5 := fun W => zba (bs B) W zB
   have eL : zbl (bs B) = bs (zbk B) := rfl
   rw [eL] at c5
   have hLl := z5m B
   have HP1 : Hid (z6l (ls s) = if z55 (zbk B) = true then z6k (zbk B) R else (0, ⟨zbk B, [], hv0, -1, R⟩)) := jL (by rw [HP0.out, if_pos hq])
   generalize zbk B = L at *
   have zL : (bs L).size <= 1000000000 := by rw [zb5]; omega
   have c6 := fun W => z3r (bs L) W
   rw [zb0] at c6
   clear hq hs eL hLl HP0
   by_cases hsp : z55 L = true
   ·rw [hsp] at c6
    have HP : Hid (z6l (ls s) = z6k L R) := jL (by rw [HP1.out, if_pos hsp])
    have c7 := fun W hW => z5j hPar (bs L) (bs R) W zL zR hW
    unfold z5e at c7
    rw [zb0, zb0] at c7
    have hC := z5k (z6k L R).2
    have hC1 := z5l (z6k L R).2
    obtain ⟨C, hCe⟩ : ∃ C, C = (z6k L R).2.cells := ⟨_, rfl⟩
    obtain ⟨n, hn⟩ : ∃ n, n = (z6k L R).1 := ⟨_, rfl⟩
    rw [<- hCe] at c7 hC hC1
    rw [<- hn] at c7
    have HC := jL hCe
    have HN := jL hn
    clear hsp hCe hn HP1
    go_enter Tryz.func36, Tryz.ntmps36
    go_wp2_with (first
     | (refine zay _ rfl 2 rfl _ rfl uz z43 ?_
        intro W1 g2 hg2 hl2 hr2 hG
        have hbw := zav (Below.refl w.heap.size w) hG jH)
     | (go_at_call 53; refine (c1 _).mono ?_; rintro e w5 ⟨rfl, hb5⟩
        replace hr2 : z80 w5 g2 uz := Row.below hr2 hb5 (Row.lt hr2)
        replace hbw := hbw.trans (hb5.mono hbw.size)
        clear hb5)
     | (go_at_call 55; refine (c2 _).mono ?_; rintro e w5 ⟨rfl, hb5⟩
        replace hr2 : z80 w5 g2 uz := Row.below hr2 hb5 (Row.lt hr2)
        replace hbw := hbw.trans (hb5.mono hbw.size)
        clear hb5)
     | (go_at_call 56; refine (c3 _).mono ?_; rintro e w5 ⟨rfl, rfl⟩)
     | (go_at_call 57; refine (c5 _).mono ?_; rintro e w5 ⟨rfl, hb5⟩
        replace hr2 : z80 w5 g2 uz := Row.below hr2 hb5 (Row.lt hr2)
        replace hbw := hbw.trans (hb5.mono hbw.size)
        clear hb5)
     | (go_at_call 14; refine (c6 _).mono ?_; rintro e w5 ⟨rfl, rfl⟩)
     | (go_at_call 58; refine (c7 _ (z5d HW.out hbw)).mono ?_; rintro e w5 ⟨rfl, hb5⟩
        replace hr2 : z80 w5 g2 uz := Row.below hr2 hb5 (Row.lt hr2)
        replace hbw := hbw.trans (hb5.mono hbw.size)
        clear hb5)
     | (refine z84 rfl rfl _ _ rfl g2 (by exact rfl) C (by exact rfl) uz hr2 rfl hC hC1 ?_
        intro w7 hr7 hG7
        have hb7 := zau hbw hG7 jH hg2))
    exact z85 2 3 rfl g2 rfl C hr7 hC _ rfl rfl ⟨by rw [HP.out, <- HC.out, <- HN.out]; rfl, hb7⟩
   ·have hsp' : z55 L = false := by simpa using hsp
    rw [hsp'] at c6
    have HP : Hid (z6l (ls s) = (0, ⟨L, [], hv0, -1, R⟩)) := jL (by rw [HP1.out, if_neg hsp])
    have c7 := fun W => ztu (bs R) W (by omega)
    have hC : (Uv.mk L [] hv0 (-1) R).cells = #[.string (bs L), .string ⟨#[]⟩, .int .i64 0, .string ⟨#[]⟩, .int .u32 0, .int .u16 0, .int .u16 0, .int .u16 0, .int .u16 0, .int .u16 0, .int .u16 0, .int .u16 0, .int .u16 0, .int .i64 (-1), .string (bs R)] := rfl
    have hC1 := z5l (Uv.mk L [] hv0 (-1) R)
    rw [hC] at hC1
    have HC := jL hC
    clear hsp hsp' HP1 hC
    go_enter Tryz.func36, Tryz.ntmps36
    go_wp2_with (first
     | (refine zay _ rfl 2 rfl _ rfl uz z43 ?_
        intro W1 g2 hg2 hl2 hr2 hG
        have hbw := zav (Below.refl w.heap.size w) hG jH)
     | (go_at_call 53; refine (c1 _).mono ?_; rintro e w5 ⟨rfl, hb5⟩
        replace hr2 : z80 w5 g2 uz := Row.below hr2 hb5 (Row.lt hr2)
        replace hbw := hbw.trans (hb5.mono hbw.size)
        clear hb5)
     | (go_at_call 55; refine (c2 _).mono ?_; rintro e w5 ⟨rfl, hb5⟩
        replace hr2 : z80 w5 g2 uz := Row.below hr2 hb5 (Row.lt hr2)
        replace hbw := hbw.trans (hb5.mono hbw.size)
        clear hb5)
     | (go_at_call 56; refine (c3 _).mono ?_; rintro e w5 ⟨rfl, rfl⟩)
     | (go_at_call 57; refine (c5 _).mono ?_; rintro e w5 ⟨rfl, hb5⟩
        replace hr2 : z80 w5 g2 uz := Row.below hr2 hb5 (Row.lt hr2)
        replace hbw := hbw.trans (hb5.mono hbw.size)
        clear hb5)
     | (go_at_call 14; refine (c6 _).mono ?_; rintro e w5 ⟨rfl, rfl⟩)
     | (go_at_call 42; refine (c7 _).mono ?_; rintro e w5 ⟨rfl, hb5⟩
        replace hr2 : z80 w5 g2 uz := Row.below hr2 hb5 (Row.lt hr2)
        replace hbw := hbw.trans (hb5.mono hbw.size)
        clear hb5)
     | (refine z84 rfl rfl _ _ rfl g2 (by exact rfl) _ (by exact rfl) uz hr2 rfl rfl hC1 ?_
        intro w7 hr7 hG7
        have hb7 := zau hbw hG7 jH hg2))
    exact z85 2 3 rfl g2 rfl _ hr7 rfl _ rfl rfl ⟨by rw [HP.out]; show _ = Ending.returned (.tuple #[.agg (Uv.mk L [] hv0 (-1) R).cells, .int .i64 0]); rw [HC.out]; rfl, hb7⟩
  ·have HP : Hid (z6l (ls s) = (15, uv0)) := jL (by rw [HP0.out, if_neg hq])
   cases q <;> (
    first
     | (have hq2 : z6a B = false := by simpa using hq
        rw [hq2] at c3
        clear hq2)
     | skip
    clear hq
    go_enter Tryz.func36, Tryz.ntmps36
    go_wp2_with (first
     | (refine zay _ rfl 2 rfl _ rfl uz z43 ?_
        intro W1 g2 hg2 hl2 hr2 hG
        have hbw := zav (Below.refl w.heap.size w) hG jH)
     | (go_at_call 53; refine (c1 _).mono ?_; rintro e w5 ⟨rfl, hb5⟩
        replace hr2 : z80 w5 g2 uz := Row.below hr2 hb5 (Row.lt hr2)
        replace hbw := hbw.trans (hb5.mono hbw.size)
        clear hb5)
     | (go_at_call 55; refine (c2 _).mono ?_; rintro e w5 ⟨rfl, hb5⟩
        replace hr2 : z80 w5 g2 uz := Row.below hr2 hb5 (Row.lt hr2)
        replace hbw := hbw.trans (hb5.mono hbw.size)
        clear hb5)
     | (go_at_call 56; refine (c3 _).mono ?_; rintro e w5 ⟨rfl, rfl⟩)
     | (refine z84 rfl rfl _ _ rfl g2 (by exact rfl) uz (by exact rfl) uz hr2 rfl rfl (z8u _ _ _ _ _ _ _ _) ?_
        intro w7 hr7 hG7
        have hb7 := zau hbw hG7 jH hg2))
    exact z85 2 3 rfl g2 rfl uz hr7 rfl _ rfl rfl ⟨by rw [HP.out]; rfl, hb7⟩)
end

section
open Go.RowKit Go.Shelf
set_option maxHeartbeats 16000000
theorem z5o (l : List UInt8) : (z6l l).2.host.Wf := by
 have h0 : hv0.Wf := zil
 have hs : ∀ sch r, (z6k sch r).2.host.Wf := by
  intro sch r
  unfold z6k
  split
  ·unfold z6j
   split
   ·exact h0
   ·unfold z6i
    split
    ·split
     ·exact h0
     ·exact (zim _).1
    ·exact h0
  ·exact h0
 unfold z6l
 split
 ·exact h0
 ·split
  ·split
   ·exact hs _ _
   ·exact h0
  ·exact h0
def z5p (u : Uv) : Bool := decide ((z6l (z47 u)).1 = 0) && eqU (z6l (z47 u)).2 u
structure USm (u : Uv) : Prop where
 wf : u.host.Wf
 hn : u.host.name.length <= 100000000
 s1 : u.scheme.length <= 100000000
 s2 : u.user.length <= 100000000
 s3 : u.rest.length <= 100000000
 p0 : -9223372036854775808 <= u.port
 p1 : u.port <= 9223372036854775807
theorem z5q {u : Uv} (h : USm u) : (z47 u).length <= 999999999 := by
 have h1 := h.hn; have h2 := h.s1; have h3 := h.s2; have h4 := h.s3
 have h5 := zgi h.wf
 have h6 := Lib.itoa_length_le _ h.p0 h.p1
 have h7 : (z46 u.port).length <= 22 := by unfold z46; split <;> simp; omega
 have h8 : (z6n u.user).length <= u.user.length + 1 := by unfold z6n; split <;> simp
 unfold z47
 split
 ·simp only [List.length_append, List.length_cons]
  omega
 ·simp only [List.length_append, List.length_cons]
  omega
theorem z5r (hF : zfy 51) {u : Uv} (h : USm u) (w : World) (hP : zwg w) :
 Calls Tryz.prog 34 #[.agg u.cells] w fun e w' => e = .returned (.string (bs (z47 u))) /\ Below w.heap.size w w' := by
 have h1 := h.hn; have h2 := h.s1; have h3 := h.s2; have h4 := h.s3
 exact z5c hF u h.wf (by omega) (by omega) (by omega) (by omega) h.p0 h.p1 w hP
set_option maxRecDepth 20000 in
theorem z5s (hPar : zff 84) (hF : zfy 51) (u : Uv) (h : USm u) (w : World) (hw : Uw w) :
 Calls Tryz.prog 12 #[.agg u.cells] w fun e w' => e = .returned (.bool (z5p u)) /\ Below w.heap.size w w' := by
 have c1 := fun W hW => z5r hF h W hW
 have c2 := fun W hW => z5n hPar (bs (z47 u)) W (by rw [zb5]; exact z5q h) hW
 unfold z5e at c2
 rw [zb0] at c2
 have hE := fun W => z9d (z6l (z47 u)).2 u (z5o _) h.wf W
 have hv : z5p u = (decide ((z6l (z47 u)).1 = 0) && eqU (z6l (z47 u)).2 u) := rfl
 have hC := z5k u
 have hC1 := z5l u
 have hD := z5k (z6l (z47 u)).2
 have hD1 := z5l (z6l (z47 u)).2
 generalize eqU (z6l (z47 u)).2 u = b at *
 generalize (z6l (z47 u)).1 = n at *
 generalize (z6l (z47 u)).2.cells = D at *
 generalize u.cells = C at *
 generalize bs (z47 u) = T at *
 have HV := jL hv
 have HW := jL hw
 generalize z5p u = V at *
 clear h hv hw
 by_cases hn : n = 0
 ·subst hn
  go_enter Tryz.func12, Tryz.ntmps12
  go_wp2_with (first
   | (refine zax _ rfl 1 rfl _ _ rfl _ C (by exact rfl) (by exact rfl) ?_; intro W1 g1 hg1 hl1 hR1 hG1; have hbw := zav (Below.refl w.heap.size w) hG1 jH)
   | (refine z82 (by rfl) _ rfl g1 (by exact rfl) C hR1 hC ?_)
   | (go_at_call 34; refine (c1 _ (z5d HW.out hbw).1.1).mono ?_; rintro e w5 ⟨rfl, hb5⟩
      replace hR1 : z80 w5 g1 C := Row.below hR1 hb5 (Row.lt hR1)
      replace hbw := hbw.trans (hb5.mono hbw.size)
      clear hb5)
   | (go_at_call 36; refine (c2 _ (z5d HW.out hbw)).mono ?_; rintro e w6 ⟨rfl, hb6⟩
      replace hR1 : z80 w6 g1 C := Row.below hR1 hb6 (Row.lt hR1)
      replace hbw := hbw.trans (hb6.mono hbw.size)
      clear hb6)
   | (refine zay _ rfl 3 rfl _ rfl uz z43 ?_
      intro W3 g3 hg3 hl3 hr3 hG3
      have hne : g1 ≠ g3 := by have := Row.lt hR1; omega
      replace hR1 : z80 W3 g1 C := Row.grown0 hR1 hG3
      have h3 : w.heap.size <= g3 := by have := hbw.size; omega
      replace hbw := zav hbw hG3 jH)
   | (refine z84 rfl rfl _ _ rfl g3 (by exact rfl) D (by exact rfl) uz hr3 rfl hD hD1 ?_
      intro w7 hr7 hG7
      replace hR1 : z80 w7 g1 C := Row.grown hR1 hG7 hne
      replace hbw := zau hbw hG7 jH h3)
   | (refine z82 (by rfl) _ rfl g3 (by exact rfl) D hr7 hD ?_))
  go_ret
  have e : V = b := HV.out.trans (by simp)
  exact ⟨by rw [e]; rfl, hbw⟩
 ·have hn0 : ((n : Int) == 0) = false := by rw [beq_eq_false_iff_ne]; omega
  have e : Hid (V = false) := jL (HV.out.trans (by simp [hn]))
  clear hn HV
  go_enter Tryz.func12, Tryz.ntmps12
  go_wp2_with (first
   | (refine zax _ rfl 1 rfl _ _ rfl _ C (by exact rfl) (by exact rfl) ?_; intro W1 g1 hg1 hl1 hR1 hG1; have hbw := zav (Below.refl w.heap.size w) hG1 jH)
   | (refine z82 (by rfl) _ rfl g1 (by exact rfl) C hR1 hC ?_)
   | (go_at_call 34; refine (c1 _ (z5d HW.out hbw).1.1).mono ?_; rintro e w5 ⟨rfl, hb5⟩
      replace hR1 : z80 w5 g1 C := Row.below hR1 hb5 (Row.lt hR1)
      replace hbw := hbw.trans (hb5.mono hbw.size)
      clear hb5)
   | (go_at_call 36; refine (c2 _ (z5d HW.out hbw)).mono ?_; rintro e w6 ⟨rfl, hb6⟩
      replace hR1 : z80 w6 g1 C := Row.below hR1 hb6 (Row.lt hR1)
      replace hbw := hbw.trans (hb6.mono hbw.size)
      clear hb6)
   | (refine zay _ rfl 3 rfl _ rfl uz z43 ?_
      intro W3 g3 hg3 hl3 hr3 hG3
      have hne : g1 ≠ g3 := by have := Row.lt hR1; omega
      replace hR1 : z80 W3 g1 C := Row.grown0 hR1 hG3
      have h3 : w.heap.size <= g3 := by have := hbw.size; omega
      replace hbw := zav hbw hG3 jH)
   | (refine z84 rfl rfl _ _ rfl g3 (by exact rfl) D (by exact rfl) uz hr3 rfl hD hD1 ?_
      intro w7 hr7 hG7
      replace hR1 : z80 w7 g1 C := Row.grown hR1 hG7 hne
      replace hbw := zau hbw hG7 jH h3)
   | (refine z82 (by rfl) _ rfl g3 (by exact rfl) D hr7 hD ?_))
  go_ret
  exact ⟨by rw [e.out]; rfl, hbw⟩
set_option maxRecDepth 20000 in
theorem z5t (hPar : zff 84) (hF : zfy 51) (u : Uv) (h : USm u) (w : World) (hw : Uw w) :
 Calls Tryz.prog 10 #[.agg u.cells] w fun e w' => e = .returned (.string (if z5p u = true then bs (z47 u) else ⟨#[]⟩)) /\ Below w.heap.size w w' := by
 have c1 := fun W hW => z5r hF h W hW
 have c2 := fun W hW => z5s hPar hF u h W hW
 have hC := z5k u
 generalize u.cells = C at *
 generalize bs (z47 u) = T at *
 have HW := jL hw
 generalize z5p u = V at *
 clear h hw
 cases V <;> (
  go_enter Tryz.func10, Tryz.ntmps10
  go_wp2_with (first
   | (refine zax _ rfl 1 rfl _ _ rfl _ C (by exact rfl) (by exact rfl) ?_; intro W1 g1 hg1 hl1 hR1 hG1; have hbw := zav (Below.refl w.heap.size w) hG1 jH)
   | (refine z82 (by rfl) _ rfl g1 (by exact rfl) C hR1 hC ?_)
   | (go_at_call 12; refine (c2 _ (z5d HW.out hbw)).mono ?_; rintro e w5 ⟨rfl, hb5⟩
      replace hR1 : z80 w5 g1 C := Row.below hR1 hb5 (Row.lt hR1)
      replace hbw := hbw.trans (hb5.mono hbw.size)
      clear hb5)
   | (go_at_call 34; refine (c1 _ (z5d HW.out hbw).1.1).mono ?_; rintro e w5 ⟨rfl, hb5⟩
      replace hR1 : z80 w5 g1 C := Row.below hR1 hb5 (Row.lt hR1)
      replace hbw := hbw.trans (hb5.mono hbw.size)
      clear hb5))
  go_ret
  exact ⟨rfl, hbw⟩)
theorem z5u (u : Uv) (w : World) :
 Calls Tryz.prog 18 #[.agg u.cells] w fun e w' => e = .returned (.int .i64 (if u.port = -1 then z54 u.scheme else u.port)) /\ Below w.heap.size w w' := by
 have hC := z87 u
 have c1 := fun W => z3p (bs u.scheme) W
 rw [zb0] at c1
 generalize u.cells = C at *
 generalize u.host.cells = H at *
 generalize bs u.scheme = S at *
 generalize z54 u.scheme = z at *
 generalize u.port = p at *
 by_cases hp : p = -1
 ·have hq : (p != -1) = false := by rw [hp]; rfl
  rw [if_pos hp]
  clear hp
  go_enter Tryz.func18, Tryz.ntmps18
  go_wp2_with (first
   | (refine zax _ rfl 1 rfl _ _ rfl _ C (by exact rfl) (by exact rfl) ?_; intro W1 g1 hg1 hl1 hR1 hG1; have hbw := zav (Below.refl w.heap.size w) hG1 jH
      obtain ⟨e0, e1, e3, e13, e14⟩ := hC.cell hR1)
   | (go_at_call 38; refine (c1 _).mono ?_; rintro e w5 ⟨rfl, rfl⟩))
  go_ret
  exact ⟨rfl, hbw⟩
 ·have hq : (p != -1) = true := by rw [bne, beq_eq_false_iff_ne.2 hp]; rfl
  rw [if_neg hp]
  clear hp
  go_enter Tryz.func18, Tryz.ntmps18
  go_wp2_with (refine zax _ rfl 1 rfl _ _ rfl _ C (by exact rfl) (by exact rfl) ?_; intro W1 g1 hg1 hl1 hR1 hG1; have hbw := zav (Below.refl w.heap.size w) hG1 jH
               obtain ⟨e0, e1, e3, e13, e14⟩ := hC.cell hR1)
  go_ret
  exact ⟨rfl, hbw⟩
end

section
open Go.RowKit Go.Shelf
set_option maxHeartbeats 16000000
theorem Row.set9 {w : World} {g k : Nat} {t : TypeId} {c : Array Value} {v : Value} (h : Row w g t c) : Row (w.setCell ⟨g, k, none⟩ v) g t (c.setIfInBounds k v) := by
 rw [setCell_eq_setRow w g k c t (0, 0) v h]
 exact setRow_heap w g c _ t _ h
theorem z5v {u : Uv} (h : z53 u.scheme = false) : (upU u).cells = u.cells := by unfold upU; rw [h]; rfl
theorem z5w {u : Uv} (h : z53 u.scheme = true) (hp : u.port = 443) : (upU u).cells = (u.cells.setIfInBounds 0 (.string (bs (z56 u.scheme)))).setIfInBounds 13 (.int .i64 (-1)) := by
 unfold upU
 rw [if_pos h, if_pos hp]
 rfl
theorem z5x {u : Uv} (h : z53 u.scheme = true) (hp : u.port ≠ 443) : (upU u).cells = u.cells.setIfInBounds 0 (.string (bs (z56 u.scheme))) := by
 unfold upU
 rw [if_pos h, if_neg hp]
 rfl
theorem z5y {c : Array Value} {k : Nat} {v : Value} (h : c.all (·.oneCell') = true) (hv : v.oneCell' = true) : (c.setIfInBounds k v).all (·.oneCell') = true := by
 rw [Array.all_eq_true] at h ⊢
 intro i hi
 rw [Array.getElem_setIfInBounds]
 split
 ·exact hv
 ·exact h i (by simpa using hi)
end

section
open Go.RowKit Go.Shelf
set_option maxHeartbeats 16000000
theorem z71 : USm uv0 := ⟨zil, by decide, by decide, by decide, by decide, by decide, by decide⟩
theorem z72 (l : List UInt8) (hl : l.length <= 99999990) : USm (z6l l).2 := by
 have hs : ∀ sch r : List UInt8, sch.length <= 99999990 -> r.length <= 99999990 -> USm (z6k sch r).2 := by
  intro sch r h1 h2
  unfold z6k
  split
  ·have h3 := z5g z6b (r.drop 2)
   rw [List.length_drop] at h3
   have h4 := z5i (zcx z6b (r.drop 2))
   unfold z6j
   split
   ·exact z71
   ·rename_i q hq
    unfold z6i
    split
    ·split
     ·exact z71
     ·rename_i p hp
      have h5 := z63 hp
      have h6 := zgj q.1
      have h7 : (z6h (zcy z6b (r.drop 2))).length <= (zcy z6b (r.drop 2)).length + 1 := by unfold z6h; split <;> simp
      exact ⟨(zim _).1, by show (zhm q.1).2.name.length <= _; omega, by show sch.length <= _; omega, by show (z6c (zcx z6b (r.drop 2))).length <= _; omega, by show (z6h (zcy z6b (r.drop 2))).length <= _; omega, by show _ <= p; omega, by show p <= _; omega⟩
    ·exact z71
  ·exact z71
 have h1 := z5g (isB 58) l
 have h2 : ((zcy (isB 58) l).drop 1).length <= 99999990 := by rw [List.length_drop]; omega
 have h3 : (zbk (zcx (isB 58) l)).length <= 99999990 := by rw [z5m]; omega
 unfold z6l
 split
 ·exact z71
 ·split
  ·split
   ·exact hs _ _ h3 h2
   ·exact ⟨zil, by show (0 : Nat) <= _; omega, by show (zbk (zcx (isB 58) l)).length <= _; omega, by show (0 : Nat) <= _; omega, by show ((zcy (isB 58) l).drop 1).length <= _; omega, by show _ <= (-1 : Int); omega, by show (-1 : Int) <= _; omega⟩
  ·exact z71
theorem z73 {u : Uv} (h : UGood u) : -1 <= u.port := by
 cases hs : z55 u.scheme with
 | true =>
   have := (h.spec hs).2.2.2
   rcases this with h1 | h1
   ·omega
   ·have := h1.1; omega
 | false =>
   have := (h.plain hs).2.2
   omega
theorem z74 {u : Uv} (h : UGood u) : z5p u = true := by
 unfold z5p
 rw [z48 (z73 h), z69 h]
 simp [z9c]
theorem z75 (l : List UInt8) : USm (z6m l).2 := by
 unfold z6m
 split
 ·exact z71
 ·exact z72 l (by omega)
theorem z76 {l : List UInt8} (h : (z6m l).1 = 0) : UGood (z6m l).2 := by
 revert h
 unfold z6m
 split
 ·intro h; cases h
 ·intro h
  exact z66 (u := (z6l l).2) (by rw [<- h])
end

section
open Go.RowKit Go.Shelf
set_option maxHeartbeats 16000000
structure Ov where
 scheme : List UInt8
 host : Hv
 port : Int
def ov0 : Ov := ⟨[], hv0, 0⟩
def zuz (u : Uv) : Int := if u.port = -1 then z54 u.scheme else u.port
def ofL (u : Uv) : Bool × Ov := if (z5p u && z55 u.scheme) = true then (true, ⟨u.scheme, u.host, zuz u⟩) else (false, ov0)
def zu0 (s : List UInt8) (p : Int) : List UInt8 := if p = z54 s then [] else 58 :: Lib.decDigits p.toNat
def zu1 (o : Ov) : Bool := z55 o.scheme && zhn o.host && decide (0 <= o.port) && decide (o.port <= 65535)
def zu2 (o : Ov) : List UInt8 := if zu1 o = true then o.scheme ++ 58 :: 47 :: 47 :: (zhp o.host ++ zu0 o.scheme o.port) else []
def zu3 : List UInt8 := [108, 111, 99, 97, 108, 104, 111, 115, 116]
def zu4 : List UInt8 := [102, 105, 108, 101]
def zu5 : List UInt8 := [97, 98, 111, 117, 116]
def zu6 : List UInt8 := [98, 108, 97, 110, 107]
def zu7 : List UInt8 := [115, 114, 99, 100, 111, 99]
def zu8 (h : Hv) : Bool := zhn h && (if h.kind = 1 then zin zu3 h.name else if h.kind = 2 then h.v4 / 16777216 == 127 else h.v6 == [0, 0, 0, 0, 0, 0, 0, 1])
def zu9 (u : Uv) : Bool := z5p u && (if (u.scheme == z51 || u.scheme == z52 || u.scheme == zu4) = true then true else if (u.scheme == zu5) = true then (u.rest == zu6 || u.rest == zu7) else z55 u.scheme && zu8 u.host)
def eqO (a b : Ov) : Bool := decide (a.scheme = b.scheme) && (decide (a.host.kind = b.host.kind) && (decide (a.host.name = b.host.name) && (decide (a.host.v4 = b.host.v4) && (decide (a.host.v6 = b.host.v6) && decide (a.port = b.port)))))
theorem zva (u v : Ov) : eqO u v = true ↔ u = v := by
 obtain ⟨s, ⟨k, n, x, g⟩, p⟩ := u
 obtain ⟨s', ⟨k', n', x', g'⟩, p'⟩ := v
 unfold eqO
 simp only [decide_eq_true_eq, Bool.and_eq_true, Ov.mk.injEq, Hv.mk.injEq]
 constructor
 ·rintro ⟨h1, h3, h4, h5, h6, h7⟩
  exact ⟨h1, ⟨h3, h4, h5, h6⟩, h7⟩
 ·rintro ⟨h1, ⟨h3, h4, h5, h6⟩, h7⟩
  exact ⟨h1, h3, h4, h5, h6, h7⟩
theorem zvb (u : Ov) : eqO u u = true := (zva u u).2 rfl
def zvc (o : Ov) : Uv := ⟨o.scheme, [], o.host, if o.port = z54 o.scheme then -1 else o.port, [47]⟩
theorem zvd {s : List UInt8} (h : z55 s = true) : s = z50 \/ s = sWs \/ s = z51 \/ s = z52 := by
 unfold z55 z53 at h
 simpa [or_assoc] using h
theorem zve {s : List UInt8} (h : z55 s = true) : z6a s = true /\ zbk s = s /\ (z54 s = 80 \/ z54 s = 443) := by
 rcases zvd h with rfl | rfl | rfl | rfl <;> decide +kernel
theorem zvf {u : Uv} : z5p u = true ↔ UGood u := by
 constructor
 ·intro h
  unfold z5p at h
  rw [Bool.and_eq_true, decide_eq_true_iff, z9b] at h
  exact z66 (l := z47 u) (by rw [<- h.1]; exact Prod.ext rfl h.2)
 ·exact z74
theorem zvg {o : Ov} (hw : o.host.Wf) (h : zu1 o = true) : UGood (zvc o) := by
 unfold zu1 at h
 simp only [Bool.and_eq_true, decide_eq_true_iff] at h
 obtain ⟨⟨⟨h1, h2⟩, h3⟩, h4⟩ := h
 obtain ⟨f1, f2, f3⟩ := zve h1
 refine ⟨f1, f2, (fun b hb => by cases hb), ?_, hw, fun _ => ⟨h2, (fun b hb => by cases hb), rfl, ?_⟩, fun h9 => ?_⟩
 ·intro b hb
  rw [List.mem_singleton.1 hb]
  decide
 ·show (if o.port = z54 o.scheme then -1 else o.port) = -1 \/ (0 <= (if o.port = z54 o.scheme then -1 else o.port) /\ (if o.port = z54 o.scheme then -1 else o.port) <= 65535 /\ (if o.port = z54 o.scheme then -1 else o.port) ≠ z54 o.scheme)
  split
  ·exact .inl rfl
  ·rename_i hp
   exact .inr ⟨h3, h4, hp⟩
 ·rw [show (zvc o).scheme = o.scheme from rfl, h1] at h9
  cases h9
theorem zvh {o : Ov} (hw : o.host.Wf) (h : zu1 o = true) : z47 (zvc o) = zu2 o ++ [47] := by
 have hg := zvg hw h
 have hs : z55 o.scheme = true := by
  unfold zu1 at h
  simp only [Bool.and_eq_true] at h
  exact h.1.1.1
 rw [z48 (z73 hg)]
 unfold z6p zu2
 rw [if_pos h, show (zvc o).scheme = o.scheme from rfl, if_pos hs]
 have e : z6o (zvc o).port = zu0 o.scheme o.port := by
  show z6o (if o.port = z54 o.scheme then -1 else o.port) = _
  unfold zu0
  by_cases hp : o.port = z54 o.scheme
  ·rw [if_pos hp, if_pos hp]
   rfl
  ·rw [if_neg hp, if_neg hp]
   unfold z6o
   rw [if_neg]
   unfold zu1 at h
   simp only [Bool.and_eq_true, decide_eq_true_iff] at h
   omega
 rw [e]
 show o.scheme ++ 58 :: 47 :: 47 :: (z6n [] ++ (zhp o.host ++ zu0 o.scheme o.port) ++ [47]) = _
 simp [z6n]
theorem zvi {o : Ov} (hw : o.host.Wf) (h : zu1 o = true) : ofL (zvc o) = (true, o) := by
 have hg := zvg hw h
 have hs : z55 o.scheme = true := by
  unfold zu1 at h
  simp only [Bool.and_eq_true] at h
  exact h.1.1.1
 unfold ofL
 rw [z74 hg, show (zvc o).scheme = o.scheme from rfl, hs, if_pos (by rfl)]
 have e : zuz (zvc o) = o.port := by
  unfold zuz
  show (if (if o.port = z54 o.scheme then -1 else o.port) = -1 then z54 o.scheme else (if o.port = z54 o.scheme then -1 else o.port)) = o.port
  by_cases hp : o.port = z54 o.scheme
  ·rw [if_pos hp, if_pos rfl, hp]
  ·rw [if_neg hp, if_neg]
   unfold zu1 at h
   simp only [Bool.and_eq_true, decide_eq_true_iff] at h
   omega
 rw [e]
 rfl
theorem zvj (o : Ov) (hw : o.host.Wf) : zu2 o = if ((ofL (zvc o)).1 && eqO (ofL (zvc o)).2 o) = true then (z47 (zvc o)).dropLast else [] := by
 by_cases h : zu1 o = true
 ·rw [zvi hw h, zvb, if_pos (by rfl), zvh hw h, List.dropLast_concat]
 ·rw [if_neg]
  ·unfold zu2
   rw [if_neg h]
  ·intro h12
   rw [Bool.and_eq_true, zva] at h12
   obtain ⟨h1, h2⟩ := h12
   apply h
   have hc : (z5p (zvc o) && z55 (zvc o).scheme) = true := by
    unfold ofL at h1
    split at h1
    ·assumption
    ·cases h1
   rw [Bool.and_eq_true, zvf] at hc
   have hp := (hc.1.spec hc.2)
   have hs : z55 o.scheme = true := hc.2
   obtain ⟨_, _, f3⟩ := zve hs
   have hpp : (if o.port = z54 o.scheme then -1 else o.port) = -1 \/ (0 <= (if o.port = z54 o.scheme then -1 else o.port) /\ (if o.port = z54 o.scheme then -1 else o.port) <= 65535 /\ (if o.port = z54 o.scheme then -1 else o.port) ≠ z54 o.scheme) := hp.2.2.2
   have hv : zhn o.host = true := hp.1
   have hpo : o.port ≠ -1 := by
    intro h9
    have e2 : zuz (zvc o) = o.port := by
     have : ofL (zvc o) = (true, ⟨(zvc o).scheme, (zvc o).host, zuz (zvc o)⟩) := by
      unfold ofL
      rw [if_pos (by rw [Bool.and_eq_true, zvf]; exact hc)]
     rw [this] at h2
     exact congrArg Ov.port h2
    have e3 : (zvc o).port = -1 := by
     show (if o.port = z54 o.scheme then -1 else o.port) = -1
     rw [h9]
     split <;> rfl
    unfold zuz at e2
    rw [if_pos e3, h9, show (zvc o).scheme = o.scheme from rfl] at e2
    omega
   unfold zu1
   rw [hs, hv]
   have hr : 0 <= o.port /\ o.port <= 65535 := by
    by_cases hq : o.port = z54 o.scheme
    ·omega
    ·rw [if_neg hq] at hpp
     omega
   simp [hr.1, hr.2]
theorem zvk {sch : List UInt8} {host : Hv} {port : Int} (h : UGood ⟨sch, [], host, port, [47]⟩) (hsp : z55 sch = true) : z6l (sch ++ 58 :: 47 :: 47 :: (zhp host ++ z6o port)) = (0, ⟨sch, [], host, port, [47]⟩) := by
 have hs := z6v h.sch
 have h58 : ∀ b ∈ sch, isB 58 b = false := fun b hb => (z6t b (hs b hb)).2.1
 have hxs : ∀ b ∈ sch, z57 b = false := fun b hb => (z6t b (hs b hb)).1
 obtain ⟨hv, _, _, hp⟩ := h.spec hsp
 have hw := h.wf
 have hsc := h.sch
 have hlo := h.low
 simp only at hv hp hw hsc hlo
 obtain ⟨hb, hne, hc⟩ := z62 hw hv
 have hpt : ∀ b ∈ z6o port, z6x b := by
  unfold z6o
  split
  ·intro b hb; cases hb
  ·intro b hb
   rcases List.mem_cons.1 hb with rfl | hb
   ·exact ⟨by decide, by decide, by decide⟩
   ·exact (z6z b (zh4 _ b hb)).1
 have hA : ∀ b ∈ zhp host ++ z6o port, z6x b := fun b hb' => by
  rcases List.mem_append.1 hb' with h | h
  ·exact hb b h
  ·exact hpt b h
 obtain ⟨a, ha⟩ : ∃ a, a = zhp host ++ z6o port := ⟨_, rfl⟩
 rw [<- ha] at hA ⊢
 have hE : (sch ++ 58 :: 47 :: 47 :: a).any z57 = false := by
  refine zc6 fun b hb => ?_
  rcases List.mem_append.1 hb with h | h
  ·exact hxs b h
  rcases List.mem_cons.1 h with rfl | h
  ·decide
  rcases List.mem_cons.1 h with rfl | h
  ·decide
  rcases List.mem_cons.1 h with rfl | h
  ·decide
  exact (hA b h).1
 unfold z6l
 rw [if_neg (by rw [hE]; simp)]
 obtain ⟨e1, e2⟩ := zc3 h58 (b := 58 :: 47 :: 47 :: a) 58 _ rfl (by decide)
 rw [e1, e2, if_pos (by rw [Bool.and_eq_true]; exact ⟨zc4.2 (by simp), hsc⟩), hlo, if_pos hsp]
 unfold z6k
 rw [if_pos (by rfl)]
 have hend : ∀ b ∈ a, z6b b = false := fun b hb => (hA b hb).2.1
 obtain ⟨e3, e4⟩ := zc2 hend
 rw [show (List.drop 1 (58 :: 47 :: 47 :: a)).drop 2 = a from rfl, e3, e4]
 have h64 : 64 ∉ a := fun hm => (hA 64 hm).2.2 rfl
 have eU := z6q h64
 unfold z6j
 rw [eU.1, eU.2, ha, z68 hc hne]
 simp only
 unfold z6i
 rw [zgk hw hv, z67 hp]
 rfl
theorem zvl {o : Ov} (hw : o.host.Wf) (h : zu1 o = true) : z6l (zu2 o) = (0, zvc o) := by
 have hg := zvg hw h
 have hs : z55 o.scheme = true := by
  unfold zu1 at h
  simp only [Bool.and_eq_true] at h
  exact h.1.1.1
 have e := zvk hg hs
 have ht := zvh hw h
 rw [z48 (z73 hg)] at ht
 unfold z6p at ht
 rw [show (zvc o).scheme = o.scheme from rfl, if_pos hs] at ht
 have ht2 : (o.scheme ++ 58 :: 47 :: 47 :: (zhp o.host ++ z6o (zvc o).port)) ++ [47] = zu2 o ++ [47] := by
  rw [<- ht]
  show _ = o.scheme ++ 58 :: 47 :: 47 :: (z6n [] ++ (zhp o.host ++ z6o (zvc o).port) ++ [47])
  simp [z6n]
 have ht3 := List.append_cancel_right ht2
 rw [<- ht3]
 exact e
theorem zvm {a b : Ov} (ha : a.host.Wf) (hb : b.host.Wf) (ga : zu1 a = true) (gb : zu1 b = true) (h : zu2 a = zu2 b) : a = b := by
 have h1 := zvl ha ga
 rw [h, zvl hb gb] at h1
 have h2 : zvc b = zvc a := (Prod.mk.inj h1).2
 have h3 := zvi ha ga
 rw [<- h2, zvi hb gb] at h3
 exact (Prod.mk.inj h3).2.symm
theorem zvn {u : Uv} (hg : UGood u) (hs : z55 u.scheme = true) : zu1 ⟨u.scheme, u.host, zuz u⟩ = true := by
 obtain ⟨h1, _, _, h4⟩ := hg.spec hs
 obtain ⟨_, _, f3⟩ := zve hs
 have hr : 0 <= zuz u /\ zuz u <= 65535 := by
  unfold zuz
  by_cases hp : u.port = -1
  ·rw [if_pos hp]; omega
  ·rw [if_neg hp]; omega
 unfold zu1
 simp [hs, h1, hr.1, hr.2]
end

section
open Go.RowKit Go.Shelf
set_option maxHeartbeats 16000000
set_option maxRecDepth 100000 in
theorem z8k {t : TypeId} {a b : Array Value} {q : Bool} {W : World} (h : (binOp .eql t (.agg a) (.agg b)).run Tryz.prog W = .ok (.bool q) W) : (binOp .neq t (.agg a) (.agg b)).run Tryz.prog W = .ok (.bool (!q)) W := by
 simp only [binOp, Sem.run_bind] at h ⊢
 cases he : (Op.equal t (.agg a) (.agg b)).run Tryz.prog W with
 | ok v w' =>
   rw [he] at h
   simp only [Result.andThen, Sem.run_pure] at h ⊢
   injection h with h1 h2
   injection h1 with h1
   rw [h1, h2]
 | _ => rw [he] at h; cases h
theorem z8l {S : World -> Prop} {ops : Array Oper} {o : Oper} {a : Act} (x : Operand) (ho : o.op = .load 28 x) (hw : Region.wanted o (yielded ops a.tmps) = true) (g : Nat) (hx : a.eval x = .pointer (some ⟨g, 0, none⟩)) (C : Array Value) (hS : ∀ W, S W -> z80 W g C) (hc : C.size = 15) : YieldsIf Tryz.prog ops S o (.agg C) a :=
 Or.inl ⟨hw, fun W hW => by
  have hl := z81 (hS W hW) hc
  unfold execOp
  simp only [ho, hx, Instr.loadAt, Instr.sureAddr, Sem.run_bind, Sem.run_pure, Result.andThen_ok, hl]⟩
theorem z8m {S : World -> Prop} {ops : Array Oper} {o : Oper} {a : Act} (x : Operand) (ho : o.op = .load 26 x) (hw : Region.wanted o (yielded ops a.tmps) = true) (g : Nat) (hx : a.eval x = .pointer (some ⟨g, 2, none⟩)) (C H : Array Value) (hS : ∀ W, S W -> z80 W g C) (hH : C.extract 2 13 = H) (hH2 : H.size = 11) : YieldsIf Tryz.prog ops S o (.agg H) a :=
 Or.inl ⟨hw, fun W hW => by
  have hu := z8x
  obtain ⟨d, hd⟩ : ∃ d, Tryz.prog.underlying 26 = some d := by
   cases hx : Tryz.prog.underlying 26 with
   | none => rw [hx] at hu; cases hu
   | some d => exact ⟨d, rfl⟩
  rw [hd] at hu
  have hr := World.rangeAt_of_block (hS W hW) 2 11
  rw [show 2 + 11 = 13 from rfl, hH] at hr
  have hl := run_loadVar_mid (P := Tryz.prog) W g 2 26 H.toList d hr hd (by simpa using hu) (by rw [Array.length_toList, hH2]; exact zgn)
  rw [Array.toArray_toList] at hl
  unfold execOp
  simp only [ho, hx, Instr.loadAt, Instr.sureAddr, Sem.run_bind, Sem.run_pure, Result.andThen_ok, hl]⟩
theorem z8n (u : Uv) : (upU u).user = u.user /\ (upU u).host = u.host /\ (upU u).rest = u.rest := by
 unfold upU
 split <;> exact ⟨rfl, rfl, rfl⟩
theorem z8o {u : Uv} (h : USm u) : USm (upU u) := by
 obtain ⟨e1, e2, e3⟩ := z8n u
 have e4 : (upU u).scheme.length <= 100000000 := by
  unfold upU
  split
  ·show (z56 u.scheme).length <= _
   unfold z56
   split <;> decide
  ·exact h.s1
 have e5 : (upU u).port = u.port \/ (upU u).port = -1 := by
  unfold upU
  split
  ·show (if u.port = 443 then -1 else u.port) = u.port \/ (if u.port = 443 then -1 else u.port) = -1
   split
   ·exact .inr rfl
   ·exact .inl rfl
  ·exact .inl rfl
 have h0 := h.p0
 have h1 := h.p1
 exact ⟨by rw [e2]; exact h.wf, by rw [e2]; exact h.hn, e4, by rw [e1]; exact h.s2, by rw [e3]; exact h.s3, by omega, by omega⟩
end

end Go.Proofs.YtekaljeicfjkjaaGreatDoor
