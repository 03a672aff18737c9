/-
parse, Parse, Valid, Format of package url.
Parse, Valid, Format, Port, Insecure of package url.
Upgrade of package url.
What is parsed is small and good.
Origins in plain words.
URLs' variables in regions that draw their order; what an upgrade keeps.
Origins in memory: the value of an origin, its variable as one row, the host within it, equality.
Contract of Digits of the reference of layer 1.
-/
import Derived.Test.YtekaljeicfjkjaaGreatDoorK25
import Derived.Deep.RegionHeld3
import Derived.Test.YtekaljeicfjkjaaGreatDoorK07
import Derived.Test.YtekaljeicfjkjaaGreatDoorK01
namespace Go.Proofs.YtekaljeicfjkjaaGreatDoor
section
open Go.RowKit Go.Shelf
set_option maxHeartbeats 16000000
theorem z59 (u : Uv) : u.cells.size = 15 := rfl
theorem z6a (u : Uv) : u.cells.all (·.oneCell') = true := z83 _ _ _ _ _ _ _ _
theorem z6b (l : List UInt8) : (zbk l).length = l.length := by unfold zbk; simp
set_option maxRecDepth 20000 in
theorem z6c (hPar : zfj 84) (s : ByteArray) (w : World) (zs : s.size <= 999999999) (hw : Uw w) :
 Calls Tryz.prog 36 #[.string s] w (z53 w (z68 (ls s))) := by
 have c1 := fun W => z4n s W (by omega)
 by_cases h1 : (ls s).any z6u = true
 ·have HP : Hid (z68 (ls s) = (4, uv0)) := jL (by unfold z68; rw [if_pos h1])
  rw [h1] at c1
  clear h1 hw
  go_enter Tryz.func36, Tryz.ntmps36
  go_wp2_with (first
   | (refine zay _ rfl 2 rfl _ rfl uz z5s ?_
      intro W1 g2 hg2 hl2 hr2 hG
      have hbw := zav (Below.refl w.heap.size w) hG jH)
   | (go_at_call 53; refine (c1 _).mono ?_; rintro e w5 ⟨rfl, hb5⟩
      replace hr2 : z89 w5 g2 uz := Row.below hr2 hb5 (Row.lt hr2)
      replace hbw := hbw.trans (hb5.mono hbw.size)
      clear hb5)
   | (refine z9d rfl rfl _ _ rfl g2 (by exact rfl) uz (by exact rfl) uz hr2 rfl rfl (z83 _ _ _ _ _ _ _ _) ?_
      intro w7 hr7 hG7
      have hb7 := zau hbw hG7 jH hg2))
  exact z9e 2 3 rfl g2 rfl uz hr7 rfl _ rfl rfl ⟨by rw [HP.out]; rfl, hb7⟩
 ·have h1' : (ls s).any z6u = false := by simpa using h1
  rw [h1'] at c1
  have hP0 : z68 (ls s) = if ((ls s).any (isB 58) && z6x (zcx (isB 58) (ls s))) = true then
   (if z6s (zbk (zcx (isB 58) (ls s))) = true then z67 (zbk (zcx (isB 58) (ls s))) ((zcy (isB 58) (ls s)).drop 1) else (0, ⟨zbk (zcx (isB 58) (ls s)), [], hv0, -1, (zcy (isB 58) (ls s)).drop 1⟩)) else (15, uv0) := by
   unfold z68
   rw [if_neg h1]
  have c2 := fun W => zcw s 58 W (by omega)
  unfold zcu at c2
  have hlb := z55 (isB 58) (ls s)
  rw [zb4] at hlb
  have hld : ((zcy (isB 58) (ls s)).drop 1).length <= 999999999 := by rw [List.length_drop]; omega
  generalize (zcy (isB 58) (ls s)).drop 1 = R at *
  generalize zcx (isB 58) (ls s) = B at *
  generalize (ls s).any (isB 58) = q at *
  have hlB : B.length <= 999999999 := by omega
  have zB : (bs B).size <= 1000000000 := by rw [zb5]; omega
  have zR : (bs R).size <= 999999999 := by rw [zb5]; exact hld
  have c3 := fun W => z4l (bs B) W zB
  rw [zb0] at c3
  have HP0 := jL hP0
  have HW := jL hw
  clear h1 h1' hP0 hlb hld hw
  by_cases hq : (q && z6x B) = true
  ·obtain ⟨rfl, hs⟩ : q = true /\ z6x B = true := by simpa using hq
   rw [hs] at c3
   have c5 := fun W => zba (bs B) W zB
   have eL : zbl (bs B) = bs (zbk B) := rfl
   rw [eL] at c5
   have hLl := z6b B
   have HP1 : Hid (z68 (ls s) = if z6s (zbk B) = true then z67 (zbk B) R else (0, ⟨zbk B, [], hv0, -1, R⟩)) := jL (by rw [HP0.out, if_pos hq])
   generalize zbk B = L at *
   have zL : (bs L).size <= 1000000000 := by rw [zb5]; omega
   have c6 := fun W => z4g (bs L) W
   rw [zb0] at c6
   clear hq hs eL hLl HP0
   by_cases hsp : z6s L = true
   ·rw [hsp] at c6
    have HP : Hid (z68 (ls s) = z67 L R) := jL (by rw [HP1.out, if_pos hsp])
    have c7 := fun W hW => z58 hPar (bs L) (bs R) W zL zR hW
    unfold z53 at c7
    rw [zb0, zb0] at c7
    have hC := z59 (z67 L R).2
    have hC1 := z6a (z67 L R).2
    obtain ⟨C, hCe⟩ : ∃ C, C = (z67 L R).2.cells := ⟨_, rfl⟩
    obtain ⟨n, hn⟩ : ∃ n, n = (z67 L R).1 := ⟨_, rfl⟩
    rw [<- hCe] at c7 hC hC1
    rw [<- hn] at c7
    have HC := jL hCe
    have HN := jL hn
    clear hsp hCe hn HP1
    go_enter Tryz.func36, Tryz.ntmps36
    go_wp2_with (first
     | (refine zay _ rfl 2 rfl _ rfl uz z5s ?_
        intro W1 g2 hg2 hl2 hr2 hG
        have hbw := zav (Below.refl w.heap.size w) hG jH)
     | (go_at_call 53; refine (c1 _).mono ?_; rintro e w5 ⟨rfl, hb5⟩
        replace hr2 : z89 w5 g2 uz := Row.below hr2 hb5 (Row.lt hr2)
        replace hbw := hbw.trans (hb5.mono hbw.size)
        clear hb5)
     | (go_at_call 55; refine (c2 _).mono ?_; rintro e w5 ⟨rfl, hb5⟩
        replace hr2 : z89 w5 g2 uz := Row.below hr2 hb5 (Row.lt hr2)
        replace hbw := hbw.trans (hb5.mono hbw.size)
        clear hb5)
     | (go_at_call 56; refine (c3 _).mono ?_; rintro e w5 ⟨rfl, rfl⟩)
     | (go_at_call 57; refine (c5 _).mono ?_; rintro e w5 ⟨rfl, hb5⟩
        replace hr2 : z89 w5 g2 uz := Row.below hr2 hb5 (Row.lt hr2)
        replace hbw := hbw.trans (hb5.mono hbw.size)
        clear hb5)
     | (go_at_call 14; refine (c6 _).mono ?_; rintro e w5 ⟨rfl, rfl⟩)
     | (go_at_call 58; refine (c7 _ (z52 HW.out hbw)).mono ?_; rintro e w5 ⟨rfl, hb5⟩
        replace hr2 : z89 w5 g2 uz := Row.below hr2 hb5 (Row.lt hr2)
        replace hbw := hbw.trans (hb5.mono hbw.size)
        clear hb5)
     | (refine z9d rfl rfl _ _ rfl g2 (by exact rfl) C (by exact rfl) uz hr2 rfl hC hC1 ?_
        intro w7 hr7 hG7
        have hb7 := zau hbw hG7 jH hg2))
    exact z9e 2 3 rfl g2 rfl C hr7 hC _ rfl rfl ⟨by rw [HP.out, <- HC.out, <- HN.out]; rfl, hb7⟩
   ·have hsp' : z6s L = false := by simpa using hsp
    rw [hsp'] at c6
    have HP : Hid (z68 (ls s) = (0, ⟨L, [], hv0, -1, R⟩)) := jL (by rw [HP1.out, if_neg hsp])
    have c7 := fun W => zur (bs R) W (by omega)
    have hC : (Uv.mk L [] hv0 (-1) R).cells = #[.string (bs L), .string ⟨#[]⟩, .int .i64 0, .string ⟨#[]⟩, .int .u32 0, .int .u16 0, .int .u16 0, .int .u16 0, .int .u16 0, .int .u16 0, .int .u16 0, .int .u16 0, .int .u16 0, .int .i64 (-1), .string (bs R)] := rfl
    have hC1 := z6a (Uv.mk L [] hv0 (-1) R)
    rw [hC] at hC1
    have HC := jL hC
    clear hsp hsp' HP1 hC
    go_enter Tryz.func36, Tryz.ntmps36
    go_wp2_with (first
     | (refine zay _ rfl 2 rfl _ rfl uz z5s ?_
        intro W1 g2 hg2 hl2 hr2 hG
        have hbw := zav (Below.refl w.heap.size w) hG jH)
     | (go_at_call 53; refine (c1 _).mono ?_; rintro e w5 ⟨rfl, hb5⟩
        replace hr2 : z89 w5 g2 uz := Row.below hr2 hb5 (Row.lt hr2)
        replace hbw := hbw.trans (hb5.mono hbw.size)
        clear hb5)
     | (go_at_call 55; refine (c2 _).mono ?_; rintro e w5 ⟨rfl, hb5⟩
        replace hr2 : z89 w5 g2 uz := Row.below hr2 hb5 (Row.lt hr2)
        replace hbw := hbw.trans (hb5.mono hbw.size)
        clear hb5)
     | (go_at_call 56; refine (c3 _).mono ?_; rintro e w5 ⟨rfl, rfl⟩)
     | (go_at_call 57; refine (c5 _).mono ?_; rintro e w5 ⟨rfl, hb5⟩
        replace hr2 : z89 w5 g2 uz := Row.below hr2 hb5 (Row.lt hr2)
        replace hbw := hbw.trans (hb5.mono hbw.size)
        clear hb5)
     | (go_at_call 14; refine (c6 _).mono ?_; rintro e w5 ⟨rfl, rfl⟩)
     | (go_at_call 42; refine (c7 _).mono ?_; rintro e w5 ⟨rfl, hb5⟩
        replace hr2 : z89 w5 g2 uz := Row.below hr2 hb5 (Row.lt hr2)
        replace hbw := hbw.trans (hb5.mono hbw.size)
        clear hb5)
     | (refine z9d rfl rfl _ _ rfl g2 (by exact rfl) _ (by exact rfl) uz hr2 rfl rfl hC1 ?_
        intro w7 hr7 hG7
        have hb7 := zau hbw hG7 jH hg2))
    exact z9e 2 3 rfl g2 rfl _ hr7 rfl _ rfl rfl ⟨by rw [HP.out]; show _ = Ending.returned (.tuple #[.agg (Uv.mk L [] hv0 (-1) R).cells, .int .i64 0]); rw [HC.out]; rfl, hb7⟩
  ·have HP : Hid (z68 (ls s) = (15, uv0)) := jL (by rw [HP0.out, if_neg hq])
   cases q <;> (
    first
     | (have hq2 : z6x B = false := by simpa using hq
        rw [hq2] at c3
        clear hq2)
     | skip
    clear hq
    go_enter Tryz.func36, Tryz.ntmps36
    go_wp2_with (first
     | (refine zay _ rfl 2 rfl _ rfl uz z5s ?_
        intro W1 g2 hg2 hl2 hr2 hG
        have hbw := zav (Below.refl w.heap.size w) hG jH)
     | (go_at_call 53; refine (c1 _).mono ?_; rintro e w5 ⟨rfl, hb5⟩
        replace hr2 : z89 w5 g2 uz := Row.below hr2 hb5 (Row.lt hr2)
        replace hbw := hbw.trans (hb5.mono hbw.size)
        clear hb5)
     | (go_at_call 55; refine (c2 _).mono ?_; rintro e w5 ⟨rfl, hb5⟩
        replace hr2 : z89 w5 g2 uz := Row.below hr2 hb5 (Row.lt hr2)
        replace hbw := hbw.trans (hb5.mono hbw.size)
        clear hb5)
     | (go_at_call 56; refine (c3 _).mono ?_; rintro e w5 ⟨rfl, rfl⟩)
     | (refine z9d rfl rfl _ _ rfl g2 (by exact rfl) uz (by exact rfl) uz hr2 rfl rfl (z83 _ _ _ _ _ _ _ _) ?_
        intro w7 hr7 hG7
        have hb7 := zau hbw hG7 jH hg2))
    exact z9e 2 3 rfl g2 rfl uz hr7 rfl _ rfl rfl ⟨by rw [HP.out]; rfl, hb7⟩)
end

section
open Go.RowKit Go.Shelf
set_option maxHeartbeats 16000000
theorem z6d (l : List UInt8) : (z68 l).2.host.Wf := by
 have h0 : hv0.Wf := ziw
 have hs : ∀ sch r, (z67 sch r).2.host.Wf := by
  intro sch r
  unfold z67
  split
  ·unfold z66
   split
   ·exact h0
   ·unfold z65
    split
    ·split
     ·exact h0
     ·exact (zix _).1
    ·exact h0
  ·exact h0
 unfold z68
 split
 ·exact h0
 ·split
  ·split
   ·exact hs _ _
   ·exact h0
  ·exact h0
def z6e (u : Uv) : Bool := decide ((z68 (z5w u)).1 = 0) && eqU (z68 (z5w u)).2 u
structure USm (u : Uv) : Prop where
 wf : u.host.Wf
 hn : u.host.name.length <= 100000000
 s1 : u.scheme.length <= 100000000
 s2 : u.user.length <= 100000000
 s3 : u.rest.length <= 100000000
 p0 : -9223372036854775808 <= u.port
 p1 : u.port <= 9223372036854775807
theorem z6f {u : Uv} (h : USm u) : (z5w u).length <= 999999999 := by
 have h1 := h.hn; have h2 := h.s1; have h3 := h.s2; have h4 := h.s3
 have h5 := zgt h.wf
 have h6 := Lib.itoa_length_le _ h.p0 h.p1
 have h7 : (z5v u.port).length <= 22 := by unfold z5v; split <;> simp; omega
 have h8 : (z7a u.user).length <= u.user.length + 1 := by unfold z7a; split <;> simp
 unfold z5w
 split
 ·simp only [List.length_append, List.length_cons]
  omega
 ·simp only [List.length_append, List.length_cons]
  omega
theorem z6g (hF : zf9 51) {u : Uv} (h : USm u) (w : World) (hP : zw5 w) :
 Calls Tryz.prog 34 #[.agg u.cells] w fun e w' => e = .returned (.string (bs (z5w u))) /\ Below w.heap.size w w' := by
 have h1 := h.hn; have h2 := h.s1; have h3 := h.s2; have h4 := h.s3
 exact z51 hF u h.wf (by omega) (by omega) (by omega) (by omega) h.p0 h.p1 w hP
set_option maxRecDepth 20000 in
theorem z6h (hPar : zfj 84) (hF : zf9 51) (u : Uv) (h : USm u) (w : World) (hw : Uw w) :
 Calls Tryz.prog 12 #[.agg u.cells] w fun e w' => e = .returned (.bool (z6e u)) /\ Below w.heap.size w w' := by
 have c1 := fun W hW => z6g hF h W hW
 have c2 := fun W hW => z6c hPar (bs (z5w u)) W (by rw [zb5]; exact z6f h) hW
 unfold z53 at c2
 rw [zb0] at c2
 have hE := fun W => z9m (z68 (z5w u)).2 u (z6d _) h.wf W
 have hv : z6e u = (decide ((z68 (z5w u)).1 = 0) && eqU (z68 (z5w u)).2 u) := rfl
 have hC := z59 u
 have hC1 := z6a u
 have hD := z59 (z68 (z5w u)).2
 have hD1 := z6a (z68 (z5w u)).2
 generalize eqU (z68 (z5w u)).2 u = b at *
 generalize (z68 (z5w u)).1 = n at *
 generalize (z68 (z5w u)).2.cells = D at *
 generalize u.cells = C at *
 generalize bs (z5w u) = T at *
 have HV := jL hv
 have HW := jL hw
 generalize z6e u = V at *
 clear h hv hw
 by_cases hn : n = 0
 ·subst hn
  go_enter Tryz.func12, Tryz.ntmps12
  go_wp2_with (first
   | (refine zax _ rfl 1 rfl _ _ rfl _ C (by exact rfl) (by exact rfl) ?_; intro W1 g1 hg1 hl1 hR1 hG1; have hbw := zav (Below.refl w.heap.size w) hG1 jH)
   | (refine z9b (by rfl) _ rfl g1 (by exact rfl) C hR1 hC ?_)
   | (go_at_call 34; refine (c1 _ (z52 HW.out hbw).1.1).mono ?_; rintro e w5 ⟨rfl, hb5⟩
      replace hR1 : z89 w5 g1 C := Row.below hR1 hb5 (Row.lt hR1)
      replace hbw := hbw.trans (hb5.mono hbw.size)
      clear hb5)
   | (go_at_call 36; refine (c2 _ (z52 HW.out hbw)).mono ?_; rintro e w6 ⟨rfl, hb6⟩
      replace hR1 : z89 w6 g1 C := Row.below hR1 hb6 (Row.lt hR1)
      replace hbw := hbw.trans (hb6.mono hbw.size)
      clear hb6)
   | (refine zay _ rfl 3 rfl _ rfl uz z5s ?_
      intro W3 g3 hg3 hl3 hr3 hG3
      have hne : g1 ≠ g3 := by have := Row.lt hR1; omega
      replace hR1 : z89 W3 g1 C := Row.grown0 hR1 hG3
      have h3 : w.heap.size <= g3 := by have := hbw.size; omega
      replace hbw := zav hbw hG3 jH)
   | (refine z9d rfl rfl _ _ rfl g3 (by exact rfl) D (by exact rfl) uz hr3 rfl hD hD1 ?_
      intro w7 hr7 hG7
      replace hR1 : z89 w7 g1 C := Row.grown hR1 hG7 hne
      replace hbw := zau hbw hG7 jH h3)
   | (refine z9b (by rfl) _ rfl g3 (by exact rfl) D hr7 hD ?_))
  go_ret
  have e : V = b := HV.out.trans (by simp)
  exact ⟨by rw [e]; rfl, hbw⟩
 ·have hn0 : ((n : Int) == 0) = false := by rw [beq_eq_false_iff_ne]; omega
  have e : Hid (V = false) := jL (HV.out.trans (by simp [hn]))
  clear hn HV
  go_enter Tryz.func12, Tryz.ntmps12
  go_wp2_with (first
   | (refine zax _ rfl 1 rfl _ _ rfl _ C (by exact rfl) (by exact rfl) ?_; intro W1 g1 hg1 hl1 hR1 hG1; have hbw := zav (Below.refl w.heap.size w) hG1 jH)
   | (refine z9b (by rfl) _ rfl g1 (by exact rfl) C hR1 hC ?_)
   | (go_at_call 34; refine (c1 _ (z52 HW.out hbw).1.1).mono ?_; rintro e w5 ⟨rfl, hb5⟩
      replace hR1 : z89 w5 g1 C := Row.below hR1 hb5 (Row.lt hR1)
      replace hbw := hbw.trans (hb5.mono hbw.size)
      clear hb5)
   | (go_at_call 36; refine (c2 _ (z52 HW.out hbw)).mono ?_; rintro e w6 ⟨rfl, hb6⟩
      replace hR1 : z89 w6 g1 C := Row.below hR1 hb6 (Row.lt hR1)
      replace hbw := hbw.trans (hb6.mono hbw.size)
      clear hb6)
   | (refine zay _ rfl 3 rfl _ rfl uz z5s ?_
      intro W3 g3 hg3 hl3 hr3 hG3
      have hne : g1 ≠ g3 := by have := Row.lt hR1; omega
      replace hR1 : z89 W3 g1 C := Row.grown0 hR1 hG3
      have h3 : w.heap.size <= g3 := by have := hbw.size; omega
      replace hbw := zav hbw hG3 jH)
   | (refine z9d rfl rfl _ _ rfl g3 (by exact rfl) D (by exact rfl) uz hr3 rfl hD hD1 ?_
      intro w7 hr7 hG7
      replace hR1 : z89 w7 g1 C := Row.grown hR1 hG7 hne
      replace hbw := zau hbw hG7 jH h3)
   | (refine z9b (by rfl) _ rfl g3 (by exact rfl) D hr7 hD ?_))
  go_ret
  exact ⟨by rw [e.out]; rfl, hbw⟩
set_option maxRecDepth 20000 in
theorem z6i (hPar : zfj 84) (hF : zf9 51) (u : Uv) (h : USm u) (w : World) (hw : Uw w) :
 Calls Tryz.prog 10 #[.agg u.cells] w fun e w' => e = .returned (.string (if z6e u = true then bs (z5w u) else ⟨#[]⟩)) /\ Below w.heap.size w w' := by
 have c1 := fun W hW => z6g hF h W hW
 have c2 := fun W hW => z6h hPar hF u h W hW
 have hC := z59 u
 generalize u.cells = C at *
 generalize bs (z5w u) = T at *
 have HW := jL hw
 generalize z6e u = V at *
 clear h hw
 cases V <;> (
  go_enter Tryz.func10, Tryz.ntmps10
  go_wp2_with (first
   | (refine zax _ rfl 1 rfl _ _ rfl _ C (by exact rfl) (by exact rfl) ?_; intro W1 g1 hg1 hl1 hR1 hG1; have hbw := zav (Below.refl w.heap.size w) hG1 jH)
   | (refine z9b (by rfl) _ rfl g1 (by exact rfl) C hR1 hC ?_)
   | (go_at_call 12; refine (c2 _ (z52 HW.out hbw)).mono ?_; rintro e w5 ⟨rfl, hb5⟩
      replace hR1 : z89 w5 g1 C := Row.below hR1 hb5 (Row.lt hR1)
      replace hbw := hbw.trans (hb5.mono hbw.size)
      clear hb5)
   | (go_at_call 34; refine (c1 _ (z52 HW.out hbw).1.1).mono ?_; rintro e w5 ⟨rfl, hb5⟩
      replace hR1 : z89 w5 g1 C := Row.below hR1 hb5 (Row.lt hR1)
      replace hbw := hbw.trans (hb5.mono hbw.size)
      clear hb5))
  go_ret
  exact ⟨rfl, hbw⟩)
theorem z6j (u : Uv) (w : World) :
 Calls Tryz.prog 18 #[.agg u.cells] w fun e w' => e = .returned (.int .i64 (if u.port = -1 then z6r u.scheme else u.port)) /\ Below w.heap.size w w' := by
 have hC := z9g u
 have c1 := fun W => z4e (bs u.scheme) W
 rw [zb0] at c1
 generalize u.cells = C at *
 generalize u.host.cells = H at *
 generalize bs u.scheme = S at *
 generalize z6r u.scheme = z at *
 generalize u.port = p at *
 by_cases hp : p = -1
 ·have hq : (p != -1) = false := by rw [hp]; rfl
  rw [if_pos hp]
  clear hp
  go_enter Tryz.func18, Tryz.ntmps18
  go_wp2_with (first
   | (refine zax _ rfl 1 rfl _ _ rfl _ C (by exact rfl) (by exact rfl) ?_; intro W1 g1 hg1 hl1 hR1 hG1; have hbw := zav (Below.refl w.heap.size w) hG1 jH
      obtain ⟨e0, e1, e3, e13, e14⟩ := hC.cell hR1)
   | (go_at_call 38; refine (c1 _).mono ?_; rintro e w5 ⟨rfl, rfl⟩))
  go_ret
  exact ⟨rfl, hbw⟩
 ·have hq : (p != -1) = true := by rw [bne, beq_eq_false_iff_ne.2 hp]; rfl
  rw [if_neg hp]
  clear hp
  go_enter Tryz.func18, Tryz.ntmps18
  go_wp2_with (refine zax _ rfl 1 rfl _ _ rfl _ C (by exact rfl) (by exact rfl) ?_; intro W1 g1 hg1 hl1 hR1 hG1; have hbw := zav (Below.refl w.heap.size w) hG1 jH
               obtain ⟨e0, e1, e3, e13, e14⟩ := hC.cell hR1)
  go_ret
  exact ⟨rfl, hbw⟩
end

section
open Go.RowKit Go.Shelf
set_option maxHeartbeats 16000000
theorem Row.set9 {w : World} {g k : Nat} {t : TypeId} {c : Array Value} {v : Value} (h : Row w g t c) : Row (w.setCell ⟨g, k, none⟩ v) g t (c.setIfInBounds k v) := by
 rw [setCell_eq_setRow w g k c t (0, 0) v h]
 exact setRow_heap w g c _ t _ h
theorem z6k {c : Array Value} {k : Nat} {v : Value} (h : c.all (·.oneCell') = true) (hv : v.oneCell' = true) : (c.setIfInBounds k v).all (·.oneCell') = true := by
 rw [Array.all_eq_true] at h ⊢
 intro i hi
 rw [Array.getElem_setIfInBounds]
 split
 ·exact hv
 ·exact h i (by simpa using hi)
end

section
open Go.RowKit Go.Shelf
set_option maxHeartbeats 16000000
theorem z8l {u : Uv} (h : UGood u) : -1 <= u.port := by
 cases hs : z6s u.scheme with
 | true =>
   have := (h.spec hs).2.2.2
   rcases this with h1 | h1
   ·omega
   ·have := h1.1; omega
 | false =>
   have := (h.plain hs).2.2
   omega
theorem z8m {u : Uv} (h : UGood u) : z6e u = true := by
 unfold z6e
 rw [z5x (z8l h), z7w h]
 simp [z9l]
end

section
open Go.RowKit Go.Shelf
set_option maxHeartbeats 16000000
structure Ov where
 scheme : List UInt8
 host : Hv
 port : Int
def ov0 : Ov := ⟨[], hv0, 0⟩
def zvw (u : Uv) : Int := if u.port = -1 then z6r u.scheme else u.port
def ofL (u : Uv) : Bool × Ov := if (z6e u && z6s u.scheme) = true then (true, ⟨u.scheme, u.host, zvw u⟩) else (false, ov0)
def zvx (s : List UInt8) (p : Int) : List UInt8 := if p = z6r s then [] else 58 :: Lib.decDigits p.toNat
def zvy (o : Ov) : Bool := z6s o.scheme && zhx o.host && decide (0 <= o.port) && decide (o.port <= 65535)
def zvz (o : Ov) : List UInt8 := if zvy o = true then o.scheme ++ 58 :: 47 :: 47 :: (zhz o.host ++ zvx o.scheme o.port) else []
def zv0 : List UInt8 := [108, 111, 99, 97, 108, 104, 111, 115, 116]
def zv1 : List UInt8 := [102, 105, 108, 101]
def zv2 : List UInt8 := [97, 98, 111, 117, 116]
def zv3 : List UInt8 := [98, 108, 97, 110, 107]
def zv4 : List UInt8 := [115, 114, 99, 100, 111, 99]
def zv5 (h : Hv) : Bool := zhx h && (if h.kind = 1 then ziy zv0 h.name else if h.kind = 2 then h.v4 / 16777216 == 127 else h.v6 == [0, 0, 0, 0, 0, 0, 0, 1])
def zv6 (u : Uv) : Bool := z6e u && (if (u.scheme == z6o || u.scheme == z6p || u.scheme == zv1) = true then true else if (u.scheme == zv2) = true then (u.rest == zv3 || u.rest == zv4) else z6s u.scheme && zv5 u.host)
def eqO (a b : Ov) : Bool := decide (a.scheme = b.scheme) && (decide (a.host.kind = b.host.kind) && (decide (a.host.name = b.host.name) && (decide (a.host.v4 = b.host.v4) && (decide (a.host.v6 = b.host.v6) && decide (a.port = b.port)))))
theorem zv7 (u v : Ov) : eqO u v = true ↔ u = v := by
 obtain ⟨s, ⟨k, n, x, g⟩, p⟩ := u
 obtain ⟨s', ⟨k', n', x', g'⟩, p'⟩ := v
 unfold eqO
 simp only [decide_eq_true_eq, Bool.and_eq_true, Ov.mk.injEq, Hv.mk.injEq]
 constructor
 ·rintro ⟨h1, h3, h4, h5, h6, h7⟩
  exact ⟨h1, ⟨h3, h4, h5, h6⟩, h7⟩
 ·rintro ⟨h1, ⟨h3, h4, h5, h6⟩, h7⟩
  exact ⟨h1, h3, h4, h5, h6, h7⟩
theorem zv8 (u : Ov) : eqO u u = true := (zv7 u u).2 rfl
def zv9 (o : Ov) : Uv := ⟨o.scheme, [], o.host, if o.port = z6r o.scheme then -1 else o.port, [47]⟩
theorem zwa {s : List UInt8} (h : z6s s = true) : s = z6n \/ s = sWs \/ s = z6o \/ s = z6p := by
 unfold z6s z6q at h
 simpa [or_assoc] using h
theorem zwb {s : List UInt8} (h : z6s s = true) : z6x s = true /\ zbk s = s /\ (z6r s = 80 \/ z6r s = 443) := by
 rcases zwa h with rfl | rfl | rfl | rfl <;> decide +kernel
theorem zwc {u : Uv} : z6e u = true ↔ UGood u := by
 constructor
 ·intro h
  unfold z6e at h
  rw [Bool.and_eq_true, decide_eq_true_iff, z9k] at h
  exact z7t (l := z5w u) (by rw [<- h.1]; exact Prod.ext rfl h.2)
 ·exact z8m
theorem zwd {o : Ov} (hw : o.host.Wf) (h : zvy o = true) : UGood (zv9 o) := by
 unfold zvy at h
 simp only [Bool.and_eq_true, decide_eq_true_iff] at h
 obtain ⟨⟨⟨h1, h2⟩, h3⟩, h4⟩ := h
 obtain ⟨f1, f2, f3⟩ := zwb h1
 refine ⟨f1, f2, (fun b hb => by cases hb), ?_, hw, fun _ => ⟨h2, (fun b hb => by cases hb), rfl, ?_⟩, fun h9 => ?_⟩
 ·intro b hb
  rw [List.mem_singleton.1 hb]
  decide
 ·show (if o.port = z6r o.scheme then -1 else o.port) = -1 \/ (0 <= (if o.port = z6r o.scheme then -1 else o.port) /\ (if o.port = z6r o.scheme then -1 else o.port) <= 65535 /\ (if o.port = z6r o.scheme then -1 else o.port) ≠ z6r o.scheme)
  split
  ·exact .inl rfl
  ·rename_i hp
   exact .inr ⟨h3, h4, hp⟩
 ·rw [show (zv9 o).scheme = o.scheme from rfl, h1] at h9
  cases h9
theorem zwe {o : Ov} (hw : o.host.Wf) (h : zvy o = true) : z5w (zv9 o) = zvz o ++ [47] := by
 have hg := zwd hw h
 have hs : z6s o.scheme = true := by
  unfold zvy at h
  simp only [Bool.and_eq_true] at h
  exact h.1.1.1
 rw [z5x (z8l hg)]
 unfold z7c zvz
 rw [if_pos h, show (zv9 o).scheme = o.scheme from rfl, if_pos hs]
 have e : z7b (zv9 o).port = zvx o.scheme o.port := by
  show z7b (if o.port = z6r o.scheme then -1 else o.port) = _
  unfold zvx
  by_cases hp : o.port = z6r o.scheme
  ·rw [if_pos hp, if_pos hp]
   rfl
  ·rw [if_neg hp, if_neg hp]
   unfold z7b
   rw [if_neg]
   unfold zvy at h
   simp only [Bool.and_eq_true, decide_eq_true_iff] at h
   omega
 rw [e]
 show o.scheme ++ 58 :: 47 :: 47 :: (z7a [] ++ (zhz o.host ++ zvx o.scheme o.port) ++ [47]) = _
 simp [z7a]
theorem zwf {o : Ov} (hw : o.host.Wf) (h : zvy o = true) : ofL (zv9 o) = (true, o) := by
 have hg := zwd hw h
 have hs : z6s o.scheme = true := by
  unfold zvy at h
  simp only [Bool.and_eq_true] at h
  exact h.1.1.1
 unfold ofL
 rw [z8m hg, show (zv9 o).scheme = o.scheme from rfl, hs, if_pos (by rfl)]
 have e : zvw (zv9 o) = o.port := by
  unfold zvw
  show (if (if o.port = z6r o.scheme then -1 else o.port) = -1 then z6r o.scheme else (if o.port = z6r o.scheme then -1 else o.port)) = o.port
  by_cases hp : o.port = z6r o.scheme
  ·rw [if_pos hp, if_pos rfl, hp]
  ·rw [if_neg hp, if_neg]
   unfold zvy at h
   simp only [Bool.and_eq_true, decide_eq_true_iff] at h
   omega
 rw [e]
 rfl
theorem zwg (o : Ov) (hw : o.host.Wf) : zvz o = if ((ofL (zv9 o)).1 && eqO (ofL (zv9 o)).2 o) = true then (z5w (zv9 o)).dropLast else [] := by
 by_cases h : zvy o = true
 ·rw [zwf hw h, zv8, if_pos (by rfl), zwe hw h, List.dropLast_concat]
 ·rw [if_neg]
  ·unfold zvz
   rw [if_neg h]
  ·intro h12
   rw [Bool.and_eq_true, zv7] at h12
   obtain ⟨h1, h2⟩ := h12
   apply h
   have hc : (z6e (zv9 o) && z6s (zv9 o).scheme) = true := by
    unfold ofL at h1
    split at h1
    ·assumption
    ·cases h1
   rw [Bool.and_eq_true, zwc] at hc
   have hp := (hc.1.spec hc.2)
   have hs : z6s o.scheme = true := hc.2
   obtain ⟨_, _, f3⟩ := zwb hs
   have hpp : (if o.port = z6r o.scheme then -1 else o.port) = -1 \/ (0 <= (if o.port = z6r o.scheme then -1 else o.port) /\ (if o.port = z6r o.scheme then -1 else o.port) <= 65535 /\ (if o.port = z6r o.scheme then -1 else o.port) ≠ z6r o.scheme) := hp.2.2.2
   have hv : zhx o.host = true := hp.1
   have hpo : o.port ≠ -1 := by
    intro h9
    have e2 : zvw (zv9 o) = o.port := by
     have : ofL (zv9 o) = (true, ⟨(zv9 o).scheme, (zv9 o).host, zvw (zv9 o)⟩) := by
      unfold ofL
      rw [if_pos (by rw [Bool.and_eq_true, zwc]; exact hc)]
     rw [this] at h2
     exact congrArg Ov.port h2
    have e3 : (zv9 o).port = -1 := by
     show (if o.port = z6r o.scheme then -1 else o.port) = -1
     rw [h9]
     split <;> rfl
    unfold zvw at e2
    rw [if_pos e3, h9, show (zv9 o).scheme = o.scheme from rfl] at e2
    omega
   unfold zvy
   rw [hs, hv]
   have hr : 0 <= o.port /\ o.port <= 65535 := by
    by_cases hq : o.port = z6r o.scheme
    ·omega
    ·rw [if_neg hq] at hpp
     omega
   simp [hr.1, hr.2]
end

section
open Go.RowKit Go.Shelf
set_option maxHeartbeats 16000000
set_option maxRecDepth 100000 in
theorem z80 {t : TypeId} {a b : Array Value} {q : Bool} {W : World} (h : (binOp .eql t (.agg a) (.agg b)).run Tryz.prog W = .ok (.bool q) W) : (binOp .neq t (.agg a) (.agg b)).run Tryz.prog W = .ok (.bool (!q)) W := by
 simp only [binOp, Sem.run_bind] at h ⊢
 cases he : (Op.equal t (.agg a) (.agg b)).run Tryz.prog W with
 | ok v w' =>
   rw [he] at h
   simp only [Result.andThen, Sem.run_pure] at h ⊢
   injection h with h1 h2
   injection h1 with h1
   rw [h1, h2]
 | _ => rw [he] at h; cases h
theorem z81 {S : World -> Prop} {ops : Array Oper} {o : Oper} {a : Act} (x : Operand) (ho : o.op = .load 28 x) (hw : Region.wanted o (yielded ops a.tmps) = true) (g : Nat) (hx : a.eval x = .pointer (some ⟨g, 0, none⟩)) (C : Array Value) (hS : ∀ W, S W -> z89 W g C) (hc : C.size = 15) : YieldsIf Tryz.prog ops S o (.agg C) a :=
 Or.inl ⟨hw, fun W hW => by
  have hl := z9a (hS W hW) hc
  unfold execOp
  simp only [ho, hx, Instr.loadAt, Instr.sureAddr, Sem.run_bind, Sem.run_pure, Result.andThen_ok, hl]⟩
theorem z82 {S : World -> Prop} {ops : Array Oper} {o : Oper} {a : Act} (x : Operand) (ho : o.op = .load 26 x) (hw : Region.wanted o (yielded ops a.tmps) = true) (g : Nat) (hx : a.eval x = .pointer (some ⟨g, 2, none⟩)) (C H : Array Value) (hS : ∀ W, S W -> z89 W g C) (hH : C.extract 2 13 = H) (hH2 : H.size = 11) : YieldsIf Tryz.prog ops S o (.agg H) a :=
 Or.inl ⟨hw, fun W hW => by
  have hu := z86
  obtain ⟨d, hd⟩ : ∃ d, Tryz.prog.underlying 26 = some d := by
   cases hx : Tryz.prog.underlying 26 with
   | none => rw [hx] at hu; cases hu
   | some d => exact ⟨d, rfl⟩
  rw [hd] at hu
  have hr := World.rangeAt_of_block (hS W hW) 2 11
  rw [show 2 + 11 = 13 from rfl, hH] at hr
  have hl := run_loadVar_mid (P := Tryz.prog) W g 2 26 H.toList d hr hd (by simpa using hu) (by rw [Array.length_toList, hH2]; exact zgx)
  rw [Array.toArray_toList] at hl
  unfold execOp
  simp only [ho, hx, Instr.loadAt, Instr.sureAddr, Sem.run_bind, Sem.run_pure, Result.andThen_ok, hl]⟩
end

section
open Go.RowKit
set_option maxHeartbeats 16000000
def oc (s : ByteArray) (k : Int) (n : ByteArray) (v : Int) (g : List Nat) (p : Int) : Array Value :=
 #[.string s, .int .i64 k, .string n, .int .u32 v, .int .u16 ((g.getD 0 0 : Nat) : Int), .int .u16 ((g.getD 1 0 : Nat) : Int), .int .u16 ((g.getD 2 0 : Nat) : Int), .int .u16 ((g.getD 3 0 : Nat) : Int), .int .u16 ((g.getD 4 0 : Nat) : Int), .int .u16 ((g.getD 5 0 : Nat) : Int), .int .u16 ((g.getD 6 0 : Nat) : Int), .int .u16 ((g.getD 7 0 : Nat) : Int), .int .i64 p]
theorem zwm (s : ByteArray) (k : Int) (n : ByteArray) (v : Int) (g : List Nat) (p : Int) : (oc s k n v g p).all (·.oneCell') = true := by
 simp [oc, Value.oneCell']
def Ov.cells (u : Ov) : Array Value := oc (bs u.scheme) u.host.kind (bs u.host.name) (u.host.v4 : Nat) u.host.v6 u.port
def oz : Array Value := oc ⟨#[]⟩ 0 ⟨#[]⟩ 0 z8 0
theorem zwn (w : World) : (zeroValue 36).run Tryz.prog w = .ok (.agg oz) w := (zero_of_info (P := Tryz.prog) (t := 36) (v := .agg oz) (n := 13) (by kernel_rfl)).1 w
theorem zwo : (Tryz.prog.underlying 36).map (fun d => match d with | .struct _ | .array _ _ => true | _ => false) = some true := by kernel_rfl
theorem zwp : (Tryz.prog.info? 36).map (·.size) = some 13 := by kernel_rfl
def zwq (w : World) (b : Nat) (c : Array Value) : Prop := Row w b 36 c
theorem zwr {w : World} {b : Nat} {c : Array Value} (h : zwq w b c) (hc : c.size = 13) : (loadVar 36 ⟨b, 0, none⟩).run Tryz.prog w = .ok (.agg c) w := by
 have hu := zwo
 obtain ⟨d, hd⟩ : ∃ d, Tryz.prog.underlying 36 = some d := by
  cases hx : Tryz.prog.underlying 36 with
  | none => rw [hx] at hu; cases hu
  | some d => exact ⟨d, rfl⟩
 rw [hd] at hu
 cases d <;> first
  | exact run_loadVar_row (P := Tryz.prog) w b _ _ c (0, 0) _ h hd rfl (by rw [hc]; exact zwp)
  | cases hu
theorem zws {ops : Array Oper} {rest : List Oper} {o : Oper} {a : Act} {w : World} {Q : Exit -> Act -> World -> Prop} (hw : Region.wanted o (yielded ops a.tmps) = true) (x : Operand) (ho : o.op = .load 36 x)
 (g : Nat) (hx : a.eval x = .pointer (some ⟨g, 0, none⟩)) (c : Array Value) (h0 : zwq w g c) (hc : c.size = 13)
 (h : wpList Tryz.prog ops Q rest (a.put o.dst (.agg c)) w) : wpList Tryz.prog ops Q (o :: rest) a w := by
 have hl := zwr h0 hc
 unfold wpList
 rw [if_pos hw]
 left
 unfold Oper.wp
 simp only [execOp, ho, hx, Instr.loadAt, Instr.sureAddr, Sem.run_bind, Sem.run_pure, Result.andThen, hl]
 exact h
theorem zwt {ops : Array Oper} {rest : List Oper} {o : Oper} {a : Act} {w : World} {Q : Exit -> Act -> World -> Prop} (hw : Region.wanted o (yielded ops a.tmps) = true) (x : Operand) (ho : o.op = .load 26 x)
 (g : Nat) (hx : a.eval x = .pointer (some ⟨g, 1, none⟩)) (c : Array Value) (h0 : zwq w g c) (H : Array Value) (hH : c.extract 1 12 = H) (hH2 : H.size = 11)
 (h : wpList Tryz.prog ops Q rest (a.put o.dst (.agg H)) w) : wpList Tryz.prog ops Q (o :: rest) a w := by
 have hu := z86
 obtain ⟨d, hd⟩ : ∃ d, Tryz.prog.underlying 26 = some d := by
  cases hx : Tryz.prog.underlying 26 with
  | none => rw [hx] at hu; cases hu
  | some d => exact ⟨d, rfl⟩
 rw [hd] at hu
 have hr := World.rangeAt_of_block h0 1 11
 rw [show 1 + 11 = 12 from rfl, hH] at hr
 have hl := run_loadVar_mid (P := Tryz.prog) w g 1 26 H.toList d hr hd (by simpa using hu) (by rw [Array.length_toList, hH2]; exact zgx)
 rw [Array.toArray_toList] at hl
 unfold wpList
 rw [if_pos hw]
 left
 unfold Oper.wp
 simp only [execOp, ho, hx, Instr.loadAt, Instr.sureAddr, Sem.run_bind, Sem.run_pure, Result.andThen, hl]
 exact h
theorem zwu {ops : Array Oper} {rest : List Oper} {o : Oper} {a : Act} {w : World} {Q : Exit -> Act -> World -> Prop} (hgd : o.guard = none) (hd : o.dst = none) (p x : Operand) (ho : o.op = .store 36 p x)
 (g : Nat) (hp : a.eval p = .pointer (some ⟨g, 0, none⟩)) (c' : Array Value) (hx : a.eval x = .agg c') (c : Array Value) (hrow : zwq w g c) (hc : c.size = 13) (hc' : c'.size = 13) (h1 : c'.all (·.oneCell') = true)
 (h : ∀ w', zwq w' g c' -> w.grownBy w' (some g) -> wpList Tryz.prog ops Q rest a w') : wpList Tryz.prog ops Q (o :: rest) a w :=
 za0 w hgd hd _ p x ho g hp c' hx _ c hrow (by rw [hc']; exact zwp) (by rw [hc, hc']) h1 h
theorem zwv {fn : Func} {R : Ending -> World -> Prop} {a : Act} {w : World} (p u : Tmp) (hres : fn.results = #[.cell p 36, .tmp u]) (b : Nat) (hp : a.tmps.getD p undef = .pointer (some ⟨b, 0, none⟩))
 (c : Array Value) (hrow : zwq w b c) (hc : c.size = 13) (v : Value) (hv : a.tmps.getD u undef = v) (hd : a.defers = []) (hR : R (.returned (.tuple #[.agg c, v])) w) : bodyPost Tryz.prog fn R .ret a w := by
 refine bodyPost_ret (v := .tuple #[.agg c, v]) ?_ hd hR
 rw [results_cell_tmp hres, hp, hv]
 simp [asAddr, Result.andThen, zwr hrow hc]
structure OC (C : Array Value) (S N : ByteArray) (H : Array Value) (p : Int) : Prop where
 sz : C.size = 13
 one : C.all (·.oneCell') = true
 c0 : C[0]? = some (.string S)
 c2 : C[2]? = some (.string N)
 c12 : C[12]? = some (.int .i64 p)
 hh : C.extract 1 12 = H
theorem zww (u : Ov) : OC u.cells (bs u.scheme) (bs u.host.name) u.host.cells u.port :=
 ⟨rfl, zwm _ _ _ _ _ _, rfl, rfl, rfl, rfl⟩
theorem OC.cell {C : Array Value} {S N : ByteArray} {H : Array Value} {p : Int} (h : OC C S N H p) {W : World} {B : Nat} (hr : zwq W B C) :
 W.cell? ⟨B, 0, none⟩ = some (.string S) /\ W.cell? ⟨B, 2, none⟩ = some (.string N) /\ W.cell? ⟨B, 12, none⟩ = some (.int .i64 p) :=
 ⟨Row.at9 hr h.c0, Row.at9 hr h.c2, Row.at9 hr h.c12⟩
theorem zwx {ops : Array Oper} {o : Oper} {a : Act} {w : World} {Q : Exit -> Act -> World -> Prop} {K : Act -> World -> Prop} {E : Prop} (hg : o.guard = none) (hop : o.op = .alloc 36)
 (h : ∀ w' g, w.heap.size <= g -> g < w'.heap.size -> zwq w' g oz -> w.grownBy w' none -> K (a.put o.dst (.pointer (some ⟨g, 0, none⟩))) w') : if Region.wanted o (yielded ops a.tmps) = true then Oper.wp Tryz.prog o a w K Q else E := by
 have hw : Region.wanted o (yielded ops a.tmps) = true := by simp [Region.wanted, hg]
 rw [if_pos hw]
 have := h (w.alloc (.cells oz 36)) w.heap.size jH (by simp) (zat w _ _) (World.grownBy_alloc w _ _)
 unfold Oper.wp
 simp [execOp, hop, Instr.alloc, newVar, newRow, Result.andThen, Value.cells, Oper.upon]
 exact this
theorem zwy {ops : Array Oper} {o : Oper} {a : Act} {w : World} {Q : Exit -> Act -> World -> Prop} {K : Act -> World -> Prop} {E : Prop} (hg : o.guard = none) (hd : o.dst = none) (p x : Operand) (hop : o.op = .store 36 p x) (g : Nat) (hp : a.eval p = .pointer (some ⟨g, 0, none⟩)) (c' : Array Value) (hx : a.eval x = .agg c')
 (c : Array Value) (hrow : zwq w g c) (hi : c'.size = 13) (ho : c.size = 13) (h1 : c'.all (·.oneCell') = true)
 (h : ∀ w', zwq w' g c' -> w.grownBy w' (some g) -> K a w') : if Region.wanted o (yielded ops a.tmps) = true then Oper.wp Tryz.prog o a w K Q else E := by
 have hw : Region.wanted o (yielded ops a.tmps) = true := by simp [Region.wanted, hg]
 rw [if_pos hw]
 have hl := run_storeVar_row (P := Tryz.prog) w g 36 _ c c' hrow (by rw [hi]; exact zwp) (by rw [hi, ho]) h1
 have : K (a.put o.dst undef) (w.setRow g c') := by
  rw [hd]
  exact h (w.setRow g c') (setRow_heap w g c c' _ _ hrow) (zaw w g c')
 unfold Oper.wp
 simp only [execOp, hop, hp, hx, Instr.storeAt, Instr.sureAddr, Sem.run_bind, Sem.run_pure, Result.andThen, hl]
 exact this
theorem zwz {S : World -> Prop} {ops : Array Oper} {o : Oper} {a : Act} (x : Operand) (ho : o.op = .load 36 x) (hw : Region.wanted o (yielded ops a.tmps) = true) (g : Nat) (hx : a.eval x = .pointer (some ⟨g, 0, none⟩)) (C : Array Value) (hS : ∀ W, S W -> zwq W g C) (hc : C.size = 13) : YieldsIf Tryz.prog ops S o (.agg C) a :=
 Or.inl ⟨hw, fun W hW => by
  have hl := zwr (hS W hW) hc
  unfold execOp
  simp only [ho, hx, Instr.loadAt, Instr.sureAddr, Sem.run_bind, Sem.run_pure, Result.andThen_ok, hl]⟩
theorem zw0 {S : World -> Prop} {ops : Array Oper} {o : Oper} {a : Act} (x : Operand) (ho : o.op = .load 26 x) (hw : Region.wanted o (yielded ops a.tmps) = true) (g : Nat) (hx : a.eval x = .pointer (some ⟨g, 1, none⟩)) (C H : Array Value) (hS : ∀ W, S W -> zwq W g C) (hH : C.extract 1 12 = H) (hH2 : H.size = 11) : YieldsIf Tryz.prog ops S o (.agg H) a :=
 Or.inl ⟨hw, fun W hW => by
  have hu := z86
  obtain ⟨d, hd⟩ : ∃ d, Tryz.prog.underlying 26 = some d := by
   cases hx : Tryz.prog.underlying 26 with
   | none => rw [hx] at hu; cases hu
   | some d => exact ⟨d, rfl⟩
  rw [hd] at hu
  have hr := World.rangeAt_of_block (hS W hW) 1 11
  rw [show 1 + 11 = 12 from rfl, hH] at hr
  have hl := run_loadVar_mid (P := Tryz.prog) W g 1 26 H.toList d hr hd (by simpa using hu) (by rw [Array.length_toList, hH2]; exact zgx)
  rw [Array.toArray_toList] at hl
  unfold execOp
  simp only [ho, hx, Instr.loadAt, Instr.sureAddr, Sem.run_bind, Sem.run_pure, Result.andThen_ok, hl]⟩
set_option maxRecDepth 20000 in
theorem zw1 (u v : Ov) (hu : u.host.Wf) (hv : v.host.Wf) (W : World) :
 (binOp .eql 36 (.agg u.cells) (.agg v.cells)).run Tryz.prog W = .ok (.bool (eqO u v)) W := by
 obtain ⟨s, ⟨k, n, x, g⟩, p⟩ := u
 obtain ⟨s', ⟨k', n', x', g'⟩, p'⟩ := v
 have hg : g.length = 8 := hu.2.1
 have hg' : g'.length = 8 := hv.2.1
 have h8 := z9j 9996 g g' hg hg' W
 have e0 : eqO (Ov.mk s ⟨k, n, x, g⟩ p) (Ov.mk s' ⟨k', n', x', g'⟩ p') = (decide ((bs s).toList = (bs s').toList) && (decide (k = k') && (decide ((bs n).toList = (bs n').toList) && (decide ((x : Int) = (x' : Int)) && (decide (g = g') && decide (p = p')))))) := by
  unfold eqO
  simp only [zb3, zb0, decide_eq_decide.2 (Int.ofNat_inj (m := x) (n := x'))]
 rw [e0]
 obtain ⟨a0, a1, a2, a3, a4, a5, a6, a7, rfl⟩ := zf5 g hg
 obtain ⟨b0, b1, b2, b3, b4, b5, b6, b7, rfl⟩ := zf5 g' hg'
 obtain ⟨q, hq⟩ : ∃ q, q = decide ([a0, a1, a2, a3, a4, a5, a6, a7] = [b0, b1, b2, b3, b4, b5, b6, b7]) := ⟨_, rfl⟩
 rw [<- hq] at h8 ⊢
 rw [show av [a0, a1, a2, a3, a4, a5, a6, a7] = #[.int .u16 (a0 : Int), .int .u16 (a1 : Int), .int .u16 (a2 : Int), .int .u16 (a3 : Int), .int .u16 (a4 : Int), .int .u16 (a5 : Int), .int .u16 (a6 : Int), .int .u16 (a7 : Int)] from rfl, show av [b0, b1, b2, b3, b4, b5, b6, b7] = #[.int .u16 (b0 : Int), .int .u16 (b1 : Int), .int .u16 (b2 : Int), .int .u16 (b3 : Int), .int .u16 (b4 : Int), .int .u16 (b5 : Int), .int .u16 (b6 : Int), .int .u16 (b7 : Int)] from rfl] at h8
 rw [show (Ov.mk s ⟨k, n, x, [a0, a1, a2, a3, a4, a5, a6, a7]⟩ p).cells = #[.string (bs s), .int .i64 k, .string (bs n), .int .u32 (x : Nat), .int .u16 (a0 : Int), .int .u16 (a1 : Int), .int .u16 (a2 : Int), .int .u16 (a3 : Int), .int .u16 (a4 : Int), .int .u16 (a5 : Int), .int .u16 (a6 : Int), .int .u16 (a7 : Int), .int .i64 p] from rfl,
  show (Ov.mk s' ⟨k', n', x', [b0, b1, b2, b3, b4, b5, b6, b7]⟩ p').cells = #[.string (bs s'), .int .i64 k', .string (bs n'), .int .u32 (x' : Nat), .int .u16 (b0 : Int), .int .u16 (b1 : Int), .int .u16 (b2 : Int), .int .u16 (b3 : Int), .int .u16 (b4 : Int), .int .u16 (b5 : Int), .int .u16 (b6 : Int), .int .u16 (b7 : Int), .int .i64 p'] from rfl]
 generalize bs s = S1 at *
 generalize bs s' = S2 at *
 generalize bs n = N1 at *
 generalize bs n' = N2 at *
 generalize (x : Int) = X1 at *
 generalize (x' : Int) = X2 at *
 clear hu hv e0 hq hg hg'
 by_cases h1 : S1.toList = S2.toList
 ·by_cases h3 : k = k'
  ·by_cases h4 : N1.toList = N2.toList
   ·by_cases h5 : X1 = X2
    ·cases q
     ·simp [go_sem, h1, h3, h4, h5, h8]
     ·by_cases h6 : p = p' <;> simp [go_sem, h1, h3, h4, h5, h6, h8]
    ·simp [go_sem, h1, h3, h4, h5]
   ·simp [go_sem, h1, h3, h4]
  ·simp [go_sem, h1, h3]
 ·simp [go_sem, h1]
end

section
open Go.RowKit
set_option maxHeartbeats 16000000
theorem z1q (s : ByteArray) (w : World) (hs : s.size <= 1000000000) :
 Calls Tryz.prog 120 #[.string s] w fun e w' => e = .returned (.bool (zbq s)) /\ w = w' := by
 go_enter Tryz.func120, Tryz.ntmps120
 go_wp2
 go_loop [3] (fun i => ∃ k : Nat, k <= s.size /\ i = .int .i64 k /\ ((ls s).take k).all zbe = true) (fun i => s.size - (intOf i).toNat)
 case atStart => exact ⟨0, Nat.zero_le _, rfl, rfl⟩
 case round =>
  obtain ⟨k, hk, rfl, hall⟩ := hrel
  have HA := jL hall
  clear hall
  by_cases hlt : k < s.size
  ·by_cases h1 : (s[k].toNat : Int) < 48
   ·have HF := jL (zbr s k hlt (by simp [zbe, zbc]; omega))
    go_wp2
    go_ret
    exact ⟨zbx HF.out.symm, rfl⟩
   ·by_cases h2 : 57 < (s[k].toNat : Int)
    ·have HF := jL (zbr s k hlt (by simp [zbe, zbc]; omega))
     go_wp2
     go_ret
     exact ⟨zbx HF.out.symm, rfl⟩
    ·have HD : Hid (zbe s[k] = true) := by show _ = _; simp [zbe, zbc]; omega
     go_wp2
     go_round
     case rel => exact ⟨k + 1, by omega, by go_num, zbt zbe s k hlt HA.out HD.out⟩
     case measure => simp [intOf]; omega
  ·obtain rfl : k = s.size := by omega
   have HF := jL (zbs s HA.out)
   go_wp2
   go_ret
   exact ⟨zbx (by rw [HF.out, zb3]), rfl⟩
end

end Go.Proofs.YtekaljeicfjkjaaGreatDoor
