/-
The reference's parse of package url (written by tools/gen-UrT.py).
-/
import Derived.Test.YtekaljeicfjkjaaGreatDoorK34
import Derived.Test.YtekaljeicfjkjaaGreatDoorK35
namespace Go.Proofs.YtekaljeicfjkjaaGreatDoor
section
open Go.RowKit Go.Shelf
set_option maxHeartbeats 16000000
theorem z8n (b : UInt8) : z6u b = true ↔ b.toNat <= 32 \/ b.toNat = 127 := by
 unfold z6u
 rw [Bool.or_eq_true, decide_eq_true_iff, beq_iff_eq, <- UInt8.toNat_inj]
 rfl
theorem z8o {p : UInt8 -> Bool} {s : ByteArray} {n : Nat} (hn : n < s.size) (h : p s[n] = true) : (ls s).any p = true :=
 List.any_eq_true.2 ⟨s[n], List.mem_of_getElem? (Lib.data_getElem? s n hn), h⟩
theorem z8p (l : List UInt8) : (z64 l).length <= l.length + 1 := by
 unfold z64
 split <;> simp
theorem z8q (F : ByteArray) : ∃ q : Bool, (q = true /\ F.toList.isEmpty = true /\ (F.toList == ([] : List UInt8)) = true /\ bs (z64 (ls F)) = ⟨#[47]⟩ ++ F) \/
 (q = true /\ F.toList.isEmpty = false /\ (F.toList == ([] : List UInt8)) = false /\ (∃ h : 0 < F.size, ((F[0].toNat : Int) == 47) = false /\ ((F[0].toNat : Int) != 47) = true) /\ bs (z64 (ls F)) = ⟨#[47]⟩ ++ F) \/
 (q = false /\ F.toList.isEmpty = false /\ (F.toList == ([] : List UInt8)) = false /\ (∃ h : 0 < F.size, ((F[0].toNat : Int) == 47) = true /\ ((F[0].toNat : Int) != 47) = false) /\ bs (z64 (ls F)) = F) := by
 by_cases h0 : 0 < F.size
 ·obtain ⟨em1, em2⟩ := zjo F h0
  have hh := zrm F h0
  by_cases h47 : F[0] = 47
  ·have e : z64 (ls F) = ls F := by unfold z64; rw [if_pos (by rw [hh, h47])]
   have q : ((F[0].toNat : Int) == 47) = true := by rw [h47]; rfl
   exact ⟨false, .inr (.inr ⟨rfl, em2, em1, ⟨h0, q, by rw [bne, q]; rfl⟩, by rw [e, zb1]⟩)⟩
  ·have e : z64 (ls F) = 47 :: ls F := by
    unfold z64
    rw [if_neg]
    rw [hh]
    intro h
    injection h with h
    exact h47 h
   have q : ((F[0].toNat : Int) == 47) = false := zrp h47
   exact ⟨true, .inr (.inl ⟨rfl, em2, em1, ⟨h0, q, by rw [bne, q]; rfl⟩, zb2 (by rw [e, zb0, zb6]; rfl)⟩)⟩
 ·obtain ⟨em1, em2⟩ := zjp F (by omega)
  have hl : ls F = [] := List.length_eq_zero_iff.1 (by rw [zb4]; omega)
  exact ⟨true, .inl ⟨rfl, em2, em1, zb2 (by rw [zb0, zb6, hl]; rfl)⟩⟩
theorem z8r (V : ByteArray) : ∃ q : Bool, (q = false /\ (¬ (ls V).head? = some 91) /\ V.toList.isEmpty = true /\ (V.toList == ([] : List UInt8)) = true) \/
 (q = false /\ (¬ (ls V).head? = some 91) /\ V.toList.isEmpty = false /\ (V.toList == ([] : List UInt8)) = false /\ ∃ h : 0 < V.size, ((V[0].toNat : Int) == 91) = false) \/
 (q = true /\ (ls V).head? = some 91 /\ V.toList.isEmpty = false /\ (V.toList == ([] : List UInt8)) = false /\ ∃ h : 0 < V.size, ((V[0].toNat : Int) == 91) = true) := by
 by_cases h0 : 0 < V.size
 ·obtain ⟨em1, em2⟩ := zjo V h0
  have hh := zrm V h0
  by_cases h91 : V[0] = 91
  ·exact ⟨true, .inr (.inr ⟨rfl, by rw [hh, h91], em2, em1, h0, by rw [h91]; rfl⟩)⟩
  ·exact ⟨false, .inr (.inl ⟨rfl, (by rw [hh]; intro h; injection h with h; exact h91 h), em2, em1, h0, zrp h91⟩)⟩
 ·obtain ⟨em1, em2⟩ := zjp V (by omega)
  have hl : ls V = [] := List.length_eq_zero_iff.1 (by rw [zb4]; omega)
  exact ⟨false, .inl ⟨rfl, (by rw [hl]; intro h; cases h), em2, em1⟩⟩
theorem z8s (S U RR : ByteArray) (h : Hv) : z8g (uc S U 0 ⟨#[]⟩ 0 z8 (-1) RR) 2 h.cells.toList = uc S U h.kind (bs h.name) (h.v4 : Nat) h.v6 (-1) RR := by kernel_rfl
theorem z8t (S U RR : ByteArray) (h : Hv) (p : Int) : uc S U h.kind (bs h.name) (h.v4 : Nat) h.v6 p RR = (uc S U h.kind (bs h.name) (h.v4 : Nat) h.v6 (-1) RR).setIfInBounds 13 (.int .i64 p) := by kernel_rfl
theorem z8u {S U RR : ByteArray} {L F : List UInt8} (h : Hv) (hS : S = bs L) (hR : RR = bs (z64 F)) : ∃ C1 C2 H : Array Value, uc S U 0 ⟨#[]⟩ 0 z8 (-1) RR = C1 /\ h.cells = H /\ C1.size = 15 /\ H.size = 11 /\ H.all (·.oneCell') = true /\ z8g C1 2 H.toList = C2 /\ C2.size = 15 /\ C2.all (·.oneCell') = true /\ C2[13]? = some (.int .i64 (-1)) /\
 ∀ p, (Uv.mk L (ls U) h p (z64 F)).cells = C2.setIfInBounds 13 (.int .i64 p) := by
 subst hS
 subst hR
 refine ⟨_, uc (bs L) U h.kind (bs h.name) (h.v4 : Nat) h.v6 (-1) (bs (z64 F)), _, rfl, rfl, rfl, rfl, zgv _ _ _ _, z8s _ _ _ _, rfl, z83 _ _ _ _ _ _ _ _, rfl, fun p => ?_⟩
 rw [<- z8t]
 show uc (bs L) (bs (ls U)) h.kind (bs h.name) (h.v4 : Nat) h.v6 p (bs (z64 F)) = _
 rw [zb1]
theorem z8v (b : UInt8) : zbe b = true ↔ 48 <= b.toNat /\ b.toNat <= 57 := by
 unfold zbe zbc
 rw [Bool.and_eq_true, decide_eq_true_iff, decide_eq_true_iff]
 omega
theorem z8w {V : ByteArray} {e m : Nat} (h1 : e + 1 <= m) (h2 : m < V.size) : ∃ h : m - (e + 1) < ((ls V).drop (e + 1)).length, ((ls V).drop (e + 1))[m - (e + 1)] = V[m] := by
 have hl : m - (e + 1) < ((ls V).drop (e + 1)).length := by rw [List.length_drop, zb4]; omega
 refine ⟨hl, ?_⟩
 have h3 : m < (ls V).length := by rw [zb4]; exact h2
 have : ((ls V).drop (e + 1))[m - (e + 1)]? = some V[m] := by
  rw [List.getElem?_drop, show e + 1 + (m - (e + 1)) = m by omega]
  exact Lib.data_getElem? V m h2
 rw [List.getElem?_eq_getElem hl] at this
 exact Option.some.inj this
theorem z8x {V : ByteArray} {e m : Nat} (h1 : e + 1 <= m) (h2 : m < V.size) : ((ls V).drop (e + 1)).take (m + 1 - (e + 1)) = ((ls V).drop (e + 1)).take (m - (e + 1)) ++ [V[m]] := by
 obtain ⟨hl, he⟩ := z8w h1 h2
 rw [show m + 1 - (e + 1) = m - (e + 1) + 1 by omega, <- List.take_append_getElem hl, he]
theorem z8y {V : ByteArray} {e m : Nat} (h1 : e + 1 <= m) (h2 : m < V.size) : V[m] ∈ (ls V).drop (e + 1) := by
 obtain ⟨hl, he⟩ := z8w h1 h2
 rw [<- he]
 exact List.getElem_mem hl
set_option maxRecDepth 20000 in
theorem z8z (s : ByteArray) (w : World) (zs : s.size <= 99999990) :
 Calls Tryz.prog 37 #[.string s] w (z53 w (z68 (ls s))) := by
 obtain ⟨A9, hA9⟩ : ∃ r, r = z68 (ls s) := ⟨_, rfl⟩
 rw [<- hA9]
 have HA := jL hA9
 clear hA9
 go_enter Tryz.func37, Tryz.ntmps37
 go_wp2_with (refine zay _ rfl 2 rfl _ rfl uz z5s ?_
              intro W1 g2 hg2 hl2 hr2 hG
              have hbw := zav (Below.refl w.heap.size w) hG jH)
 clear hG hl2
 go_loop [4] (fun i => ∃ n : Nat, n <= s.size /\ i = .int .i64 n /\ Hid (∀ b ∈ (ls s).take n, z6u b = false)) (fun i => s.size - (intOf i).toNat)
 case atStart => exact ⟨0, Nat.zero_le _, rfl, jL (fun b hb => by simp at hb)⟩
 case round =>
  obtain ⟨n, hn, rfl, HN⟩ := hrel
  by_cases hlt : n < s.size
  ·have hie := z8n s[n]
   have hb := zce s[n]
   obtain ⟨y, hy⟩ : ∃ y : Int, y = ((s[n]).toNat : Int) := ⟨_, rfl⟩
   have hy0 : 0 <= y := by omega
   rw [<- hy] at hb
   have t1 : ((s[n]).toNat : Int) = y := hy.symm
   have hie2 : z6u s[n] = true ↔ y <= 32 \/ y = 127 := by rw [hie]; omega
   clear hie hy
   by_cases hx : y <= 32 \/ y = 127
   ·have HF : Hid (A9 = (4, uv0)) := jL (by rw [HA.out]; unfold z68; rw [if_pos (z8o hlt (hie2.2 hx))])
    clear hie2 HN HA hn
    have HP := HF
    rcases hx with h1 | h1
    ·go_wp2_with (first
      | (refine z9d rfl rfl _ _ rfl g2 (by exact rfl) uz (by exact rfl) uz hr2 rfl rfl (z83 _ _ _ _ _ _ _ _) ?_
         intro w7 hr7 hG7
         have hb7 := zau hbw hG7 jH hg2))
     exact z9e 2 3 rfl g2 rfl uz hr7 rfl _ rfl rfl ⟨by rw [HP.out]; rfl, hb7⟩
    ·subst h1
     go_wp2_with (first
      | (refine z9d rfl rfl _ _ rfl g2 (by exact rfl) uz (by exact rfl) uz hr2 rfl rfl (z83 _ _ _ _ _ _ _ _) ?_
         intro w7 hr7 hG7
         have hb7 := zau hbw hG7 jH hg2))
     exact z9e 2 3 rfl g2 rfl uz hr7 rfl _ rfl rfl ⟨by rw [HP.out]; rfl, hb7⟩
   ·have HN2 : Hid (∀ b ∈ (ls s).take (n + 1), z6u b = false) := jL (z9t hlt HN.out (by
     cases hx9 : z6u s[n] with
     | false => rfl
     | true => exact absurd (hie2.1 hx9) hx))
    have h0 : ¬ y <= 32 := fun h => hx (.inl h)
    have hq : (y == 127) = false := by rw [beq_eq_false_iff_ne]; exact fun h => hx (.inr h)
    clear hx hie2 HN HA
    go_wp2
    go_round
    case rel => exact ⟨n + 1, by omega, by go_num, HN2⟩
    case measure => simp [intOf]; omega
  ·obtain rfl : n = s.size := by omega
   have hany : (ls s).any z6u = false := zc6 (by have := HN.out; rwa [List.take_of_length_le (by rw [zb4]; exact jH)] at this)
   have hP0 : A9 = if ((ls s).any (isB 58) && z6x (zcx (isB 58) (ls s))) = true then
    (if z6s (zbk (zcx (isB 58) (ls s))) = true then z67 (zbk (zcx (isB 58) (ls s))) ((zcy (isB 58) (ls s)).drop 1) else (0, ⟨zbk (zcx (isB 58) (ls s)), [], hv0, -1, (zcy (isB 58) (ls s)).drop 1⟩)) else (15, uv0) := by
    rw [HA.out]
    unfold z68
    rw [if_neg (by rw [hany]; simp)]
   have c1 := fun W => z92 s W (by omega)
   unfold z9v at c1
   have hlb := z55 (isB 58) (ls s)
   rw [zb4] at hlb
   have hld : ((zcy (isB 58) (ls s)).drop 1).length <= 99999990 := by rw [List.length_drop]; omega
   clear HA HN hany hlt hn
   generalize (zcy (isB 58) (ls s)).drop 1 = R at *
   generalize zcx (isB 58) (ls s) = B at *
   generalize (ls s).any (isB 58) = q at *
   have hlB : B.length <= 99999990 := by omega
   by_cases hq : (q && z6x B) = true
   ·simp only [if_pos hq] at c1
    have hP1 : A9 = if z6s (zbk B) = true then z67 (zbk B) R else (0, ⟨zbk B, [], hv0, -1, R⟩) := by rw [hP0, if_pos hq]
    have hLl := z6b B
    generalize zbk B = L at *
    have hlL : L.length <= 99999990 := by omega
    clear hP0 hq hLl hlb hlB
    have c2 := fun W => z8j (bs L) W
    rw [zb0] at c2
    obtain ⟨S, hS⟩ : ∃ S, S = bs L := ⟨_, rfl⟩
    obtain ⟨X, hX⟩ : ∃ X, X = bs R := ⟨_, rfl⟩
    have zS : S.size <= 1000000000 := by rw [hS, zb5]; omega
    have zX : X.size <= 99999990 := by rw [hX, zb5]; exact hld
    rw [<- hS, <- hX] at c1
    rw [<- hS] at c2
    by_cases hsp : z6s L = true
    ·rw [hsp] at c2
     have hP2 : A9 = z67 L R := by rw [hP1, if_pos hsp]
     clear hP1 hsp
     by_cases h2 : R.take 2 = [47, 47]
     ·have hP3 : A9 = z66 L (zcx z6y (R.drop 2)) (zcy z6y (R.drop 2)) := by rw [hP2]; unfold z67; rw [if_pos h2]
      have x2 : X.extract 0 2 = ⟨#[47, 47]⟩ := zb2 (by rw [zb9, List.drop_zero, hX, zb0]; exact h2)
      have x3 : X.extract 2 X.size = bs (R.drop 2) := zb2 (by rw [zct, hX, zb0, zb0])
      have hXs : 2 <= X.size := by
       rw [hX, zb5]
       have := congrArg List.length h2
       rw [List.length_take] at this
       simp at this
       omega
      have hDl : (R.drop 2).length <= 99999990 := by rw [List.length_drop]; omega
      clear h2 hP2 hX
      generalize R.drop 2 = D at *
      obtain ⟨Y, hY⟩ : ∃ Y, Y = bs D := ⟨_, rfl⟩
      obtain rfl : D = ls Y := by rw [hY, zb0]
      clear hY
      rw [zb1] at x3
      rw [zb4] at hDl
      have c3 := fun W => z9u Y ⟨#[47, 63, 35]⟩ W (by omega) (by decide)
      simp only [show ls ⟨#[47, 63, 35]⟩ = [47, 63, 35] from rfl, z7z] at c3
      have ha : Y.extract 0 (zcx z6y (ls Y)).length = bs (zcx z6y (ls Y)) := zb2 (by rw [zb9, List.drop_zero, Nat.sub_zero, zb0, z70])
      have hf : Y.extract (zcx z6y (ls Y)).length Y.size = bs (zcy z6y (ls Y)) := zb2 (by rw [zct, zb0, z71])
      have hb9 := z55 z6y (ls Y)
      rw [zb4] at hb9
      obtain ⟨k, hk⟩ : ∃ k, k = (zcx z6y (ls Y)).length := ⟨_, rfl⟩
      rw [<- hk] at hb9 ha hf
      simp only [<- hk] at c3
      obtain ⟨A, hA⟩ : ∃ A, A = bs (zcx z6y (ls Y)) := ⟨_, rfl⟩
      obtain ⟨F, hF⟩ : ∃ F, F = bs (zcy z6y (ls Y)) := ⟨_, rfl⟩
      have zA : A.size <= 99999990 := by rw [hA, zb5, <- hk]; omega
      have zF : F.size <= 99999990 := by rw [hF, zb5]; omega
      have hP4 : A9 = z66 L (ls A) (ls F) := by rw [hP3, hA, hF, zb0, zb0]
      rw [<- hA] at ha
      rw [<- hF] at hf
      have k1 : (k : Int) <= (Y.size : Int) := by omega
      have k2 : (2 : Int) <= (X.size : Int) := by omega
      have k3 : decide ((X.size : Int) < 2) = false := jF (by omega)
      have k4 : k <= Y.size := hb9.1
      have HP := jL hP4
      have HS := jL hS
      clear hP3 hk hA hF hb9 hP4 hS hDl
      go_upto_region 15 with (first
       | (go_at_call 59; refine (c1 _).mono ?_; rintro e w5 ⟨rfl, hb5⟩
          replace hr2 : z89 w5 g2 uz := Row.below hr2 hb5 (Row.lt hr2)
          replace hbw := hbw.trans (hb5.mono hbw.size)
          clear hb5)
       | (go_at_call 15; refine (c2 _).mono ?_; rintro e w6 ⟨rfl, rfl⟩)
       | (go_at_call 60; refine (c3 _).mono ?_; rintro e w7 ⟨rfl, hb5⟩
          replace hr2 : z89 w7 g2 uz := Row.below hr2 hb5 (Row.lt hr2)
          replace hbw := hbw.trans (hb5.mono hbw.size)
          clear hb5))
      clear c1 c2 c3 x2 x3 k2 k3
      go_quiet (fail)
      replace hr2 : z89 (w7.drewN nq) g2 uz := Row.below hr2 (below_drewN w7 nq) (Row.lt hr2)
      replace hbw := hbw.trans ((below_drewN w7 nq).mono hbw.size)
      generalize w7.drewN nq = w9 at *
      clear ha hf k1 k4
      go_upto_region 17 with (first
       | (refine zay _ rfl 10 rfl _ rfl uz z5s ?_
          intro W10 g10 hg10 hl10 hr10 hG10
          have h10 : w.heap.size <= g10 := by have := hbw.size; omega
          have hne : g2 ≠ g10 := by have := Row.lt hr2; omega
          replace hr2 : z89 W10 g2 uz := Row.grown0 hr2 hG10
          replace hbw := zav hbw hG10 jH
          clear hG10 hl10 hg10)
       | (refine z9d rfl rfl _ _ rfl g10 (by exact rfl) (uc S ⟨#[]⟩ 0 ⟨#[]⟩ 0 z8 (-1) F) (by exact rfl) uz hr10 rfl rfl (z83 _ _ _ _ _ _ _ _) ?_
          intro w11 hr11 hG11
          replace hr2 : z89 w11 g2 uz := Row.grown hr2 hG11 hne
          replace hbw := zau hbw hG11 jH h10
          clear hG11 hr10))
      have hqr := z8q F
      obtain ⟨RR, hRR⟩ : ∃ b, b = bs (z64 (ls F)) := ⟨_, rfl⟩
      rw [<- hRR] at hqr
      have HRR := jL hRR
      have zRR : RR.size <= 99999991 := by rw [hRR, zb5]; have := z8p (ls F); rw [zb4] at this; omega
      clear hRR
      obtain ⟨qr, hqr⟩ := hqr
      have HQ := jL hqr
      clear hqr
      go_simp
      go_cut [77] from 71 to 77 (fun v wx => wx = w11 /\ v = .bool qr)
      case first =>
       rcases HQ.out with ⟨rfl, e2, e1, _⟩ | ⟨rfl, e2, e1, ⟨h0, q1, q2⟩, _⟩ | ⟨rfl, e2, e1, ⟨h0, q1, q2⟩, _⟩
       ·go_wp2_with fail
        go_meet
        exact ⟨rfl, rfl⟩
       ·go_wp2_with fail
        go_meet
        exact ⟨rfl, rfl⟩
       ·go_wp2_with fail
        go_meet
        exact ⟨rfl, rfl⟩
      case rest =>
      obtain ⟨hwx, hvx⟩ := hcut
      subst hwx
      subst hvx
      go_upto_if 77 with fail
      go_cut [] from 78 to 80 (fun wx => z89 wx g10 (uc S ⟨#[]⟩ 0 ⟨#[]⟩ 0 z8 (-1) RR) /\ z89 wx g2 uz /\ Below w.heap.size w wx)
      case first =>
       rcases HQ.out with ⟨rfl, _, _, eR⟩ | ⟨rfl, _, _, _, eR⟩ | ⟨rfl, _, _, _, eR⟩
       ·have HE := jL eR
        clear eR
        go_wp2_with (refine za1 _ rfl rfl _ _ _ rfl g10 14 (by exact rfl) _ rfl rfl _ (uc S ⟨#[]⟩ 0 ⟨#[]⟩ 0 z8 (-1) F) hr11 (by show 14 < 15; omega) (by exact z87) ?_
                     intro w12 hr12 hG12
                     replace hr2 : z89 w12 g2 uz := Row.grown hr2 hG12 hne
                     replace hbw := zau hbw hG12 jH h10)
        go_meet
        exact ⟨by rw [HE.out]; exact hr12, hr2, hbw⟩
       ·have HE := jL eR
        clear eR
        go_wp2_with (refine za1 _ rfl rfl _ _ _ rfl g10 14 (by exact rfl) _ rfl rfl _ (uc S ⟨#[]⟩ 0 ⟨#[]⟩ 0 z8 (-1) F) hr11 (by show 14 < 15; omega) (by exact z87) ?_
                     intro w12 hr12 hG12
                     replace hr2 : z89 w12 g2 uz := Row.grown hr2 hG12 hne
                     replace hbw := zau hbw hG12 jH h10)
        go_meet
        exact ⟨by rw [HE.out]; exact hr12, hr2, hbw⟩
       ·have HE := jL eR
        clear eR
        go_wp2_with fail
        go_meet
        exact ⟨by rw [HE.out]; exact hr11, hr2, hbw⟩
      case rest =>
      clear hr11 hr2 hbw HQ
      obtain ⟨hr11, hr2, hbw⟩ := hcut
      have hat := z7f (ls A)
      obtain ⟨U, hU⟩ : ∃ b, b = bs (z6z (ls A)) := ⟨_, rfl⟩
      obtain ⟨V, hV⟩ : ∃ b, b = bs (z60 (ls A)) := ⟨_, rfl⟩
      have hUV := z57 (ls A)
      rw [zb4] at hUV
      have zU : U.size <= 99999990 := by rw [hU, zb5]; omega
      have zV : V.size <= 99999990 := by rw [hV, zb5]; omega
      have HU := jL hU
      have HV := jL hV
      clear hat hU hV hUV
      go_upto_block 2 with fail
      go_cut [9] from 84 to 99 (fun v wx => v = .string V /\ z89 wx g10 (uc S U 0 ⟨#[]⟩ 0 z8 (-1) RR) /\ z89 wx g2 uz /\ Below w.heap.size w wx)
      case first =>
       go_wp2_with fail
       go_loop [9, 11] (fun v i => ∃ z : Int, -1 <= z /\ z < (A.size : Int) /\ i = .int .i64 z /\ v = .string A /\ Hid (∀ b ∈ (ls A).drop (z + 1).toNat, b ≠ 64)) (fun _ i => (intOf i + 1).toNat)
       case atStart => exact ⟨(A.size : Int) - 1, by omega, by omega, by first | rfl | go_num, rfl, jL (fun b hb => by rw [List.drop_of_length_le (by rw [zb4]; omega)] at hb; cases hb)⟩
       case round =>
        obtain ⟨z, hz1, hz2, rfl, rfl, HN⟩ := hrel
        by_cases hz : 0 <= z
        ·obtain ⟨j, rfl⟩ : ∃ j : Nat, z = (j : Int) := ⟨z.toNat, by omega⟩
         have hj : j < A.size := by omega
         have hjl : j < (ls A).length := by rw [zb4]; exact hj
         have hN := HN.out
         rw [show ((j : Int) + 1).toNat = j + 1 by omega] at hN
         have hja := z9q A j hj hjl
         by_cases h64 : A[j]'hj = 64
         ·have hq : (((A[j]'hj).toNat : Int) == 64) = true := by rw [h64]; rfl
          have hh := z76 hjl (by rw [hja]; exact h64) hN
          have e1 : A.extract 0 j = U := zb2 (by rw [zb9, List.drop_zero, Nat.sub_zero, HU.out, zb0]; exact hh.1.symm)
          have e2 : A.extract (j + 1) A.size = V := zb2 (by rw [zct, HV.out, zb0]; exact hh.2.symm)
          have g1 : (j : Int) + 1 <= (A.size : Int) := by omega
          have g2' : (j : Int) <= (A.size : Int) := by omega
          have g4 : (0 : Int) <= (j : Int) + 1 := by omega
          have g3 : ((j : Int) + 1).toNat = j + 1 := by omega
          have hw1 : IntKind.i64.wrap ((j : Int) + 1) = (j : Int) + 1 := by rw [IntKind.wrap_i64]; omega
          clear hh hja h64 hN HN hjl hz1 hz2
          go_upto_region 23 with fail
          refine wp_region_any (by kernel_rfl) ?_
          refine wpAny_take (i := 0) (v := .string A) rfl (by kernel_rfl) (by kernel_rfl) (by kernel_rfl) (fun _ _ _ h => h) (Or.inl ⟨by rfl, by intro w; go_simp; try with_reducible rfl⟩) ?_
          refine wpAny_take (i := 1) (v := .int .i64 (j : Int)) rfl (by kernel_rfl) (by kernel_rfl) (by kernel_rfl) (fun _ _ _ h => h) (Or.inl ⟨by rfl, by intro w; go_simp; try with_reducible rfl⟩) ?_
          refine wpAny_take (i := 2) (v := .string U) rfl (by kernel_rfl) (by kernel_rfl) (by kernel_rfl) (fun _ _ _ h => h) (Or.inl ⟨by rfl, by intro w; go_simp; try with_reducible rfl⟩) ?_
          refine wpAny_take (i := 3) (v := .string A) rfl (by kernel_rfl) (by kernel_rfl) (by kernel_rfl) (fun _ _ _ h => h) (Or.inl ⟨by rfl, by intro w; go_simp; try with_reducible rfl⟩) ?_
          refine wpAny_take (i := 4) (v := .int .i64 (j : Int)) rfl (by kernel_rfl) (by kernel_rfl) (by kernel_rfl) (fun _ _ _ h => h) (Or.inl ⟨by rfl, by intro w; go_simp; try with_reducible rfl⟩) ?_
          refine wpAny_take (i := 5) (v := .int .i64 ((j : Int) + 1)) rfl (by kernel_rfl) (by kernel_rfl) (by kernel_rfl) (fun _ _ _ h => h) (Or.inl ⟨by rfl, by intro w; go_simp; try with_reducible rfl⟩) ?_
          refine wpAny_take (i := 6) (v := .string V) rfl (by kernel_rfl) (by kernel_rfl) (by kernel_rfl) (fun _ _ _ h => h) (Or.inl ⟨by rfl, by intro w; go_simp; try with_reducible rfl⟩) ?_
          refine wpAny_take (i := 7) (v := .pointer (some ⟨g10, 1, none⟩)) rfl (by kernel_rfl) (by kernel_rfl) (by kernel_rfl) (fun _ _ _ h => h) (Or.inl ⟨by rfl, by intro w; go_simp; try with_reducible rfl⟩) ?_
          refine zi7 8 rfl (by kernel_rfl) ?_
          simp only [List.drop_succ_cons, List.drop_zero]
          change wpList _ _ _ _ _ (World.drew _)
          replace hr11 : z89 (World.drew wc) g10 (uc S ⟨#[]⟩ 0 ⟨#[]⟩ 0 z8 (-1) RR) := hr11
          replace hr2 : z89 (World.drew wc) g2 uz := hr2
          replace hbw := hbw.drew
          generalize World.drew wc = w9 at *
          go_simp
          clear e1 e2 g1 g2' g3 g4 hw1
          go_wp2_with (refine za1 _ rfl rfl _ _ _ rfl g10 1 (by exact rfl) (.string U) (by exact rfl) rfl _ (uc S ⟨#[]⟩ 0 ⟨#[]⟩ 0 z8 (-1) RR) hr11 (by show 1 < 15; omega) (by exact z87) ?_
                       intro w12 hr12 hG12
                       replace hr2 := Row.grown hr2 hG12 hne
                       replace hbw := zau hbw hG12 jH h10)
          go_meet
          exact ⟨rfl, hr12, hr2, hbw⟩
         ·have hq : (((A[j]'hj).toNat : Int) == 64) = false := zrp h64
          have HN2 : Hid (∀ b ∈ (ls A).drop ((j : Int) - 1 + 1).toNat, b ≠ 64) := jL (by
           rw [show ((j : Int) - 1 + 1).toNat = j by omega]
           exact z77 hjl (by rw [hja]; exact h64) hN)
          clear hN HN hja h64 hjl hz1
          go_wp2
          go_round
          case rel => exact ⟨(j : Int) - 1, by omega, by omega, by first | rfl | go_num, rfl, HN2⟩
          case measure => simp [intOf]
        ·have hN := HN.out
         rw [show (z + 1).toNat = 0 by omega] at hN
         have hh := z78 hN
         have e1 : U = ⟨#[]⟩ := zb2 (by rw [HU.out, zb0, hh.1]; rfl)
         have e2 : V = A := zb2 (by rw [HV.out, zb0, hh.2])
         have HE := jL (And.intro e1 e2)
         clear hN HN hh e1 e2 hz1 hz2
         go_wp2
         go_meet
         rw [HE.out.1, HE.out.2]
         exact ⟨rfl, hr11, hr2, hbw⟩
      case rest =>
      clear hr11 hr2 hbw
      obtain ⟨rfl, hr11, hr2, hbw⟩ := hcut
      have hPV : A9 = match z63 (ls V) with
       | none => (4, uv0)
       | some q => z65 L (ls U) (ls F) q.1 q.2 := by
       rw [HP.out, HV.out, HU.out, zb0, zb0]
       rfl
      have HPV := jL hPV
      have c3 := fun W => z9u V ⟨#[58]⟩ W (by omega) (by decide)
      have c4 := fun W => z9u V ⟨#[93]⟩ W (by omega) (by decide)
      simp only [show ls ⟨#[58]⟩ = [58] from rfl, z7y] at c3
      simp only [show ls ⟨#[93]⟩ = [93] from rfl, z7y] at c4
      have l58 := (z55 (isB 58) (ls V)).1
      have l93 := (z55 (isB 93) (ls V)).1
      rw [zb4] at l58 l93
      have hs2 : ¬ (ls V).head? = some 91 -> z63 (ls V) = some ((ls V).take (zcx (isB 58) (ls V)).length, (ls V).drop ((zcx (isB 58) (ls V)).length + 1)) := fun h => z72 h rfl
      have hs1 : (ls V).head? = some 91 -> (zcx (isB 93) (ls V)).length + 1 <= (ls V).length -> ((zcx (isB 93) (ls V)).length + 1 = (ls V).length \/ (ls V)[(zcx (isB 93) (ls V)).length + 1]? = some 58) -> z63 (ls V) = some ((ls V).take ((zcx (isB 93) (ls V)).length + 1), (ls V).drop ((zcx (isB 93) (ls V)).length + 1 + 1)) := fun h1 h2 h3 => z73 h1 rfl h2 h3
      have hn1 : (ls V).head? = some 91 -> (ls V).length < (zcx (isB 93) (ls V)).length + 1 -> z63 (ls V) = none := fun h1 h2 => z74 h1 h2
      have hn2 : (ls V).head? = some 91 -> ∀ c, (ls V)[(zcx (isB 93) (ls V)).length + 1]? = some c -> c ≠ 58 -> z63 (ls V) = none := fun h1 c h2 h3 => z75 h1 rfl h2 h3
      generalize (zcx (isB 58) (ls V)).length = k58 at *
      generalize (zcx (isB 93) (ls V)).length = k93 at *
      have HS1 := jL hs1
      have HS2 := jL hs2
      have HN1 := jL hn1
      have HN2 := jL hn2
      have HL := jL (And.intro l58 l93)
      have HAC := jL (z8r V)
      clear hPV hs1 hs2 hn1 hn2 l58 l93 HP HV HU
      go_upto_region 25 with (go_at_call 60; refine (c3 _).mono ?_; rintro e w12 ⟨rfl, hb5⟩
                              replace hr11 : z89 w12 g10 (uc S U 0 ⟨#[]⟩ 0 z8 (-1) RR) := Row.below hr11 hb5 (Row.lt hr11)
                              replace hr2 : z89 w12 g2 uz := Row.below hr2 hb5 (Row.lt hr2)
                              replace hbw := hbw.trans (hb5.mono hbw.size)
                              clear hb5)
      clear c3
      go_simp
      obtain ⟨qb, hqb⟩ := HAC.out
      have HQ := jL hqb
      clear hqb HAC
      go_cut [108] from 102 to 108 (fun v wx => wx = w12 /\ v = .bool qb)
      case first =>
       rcases HQ.out with ⟨rfl, _, e2, e1⟩ | ⟨rfl, _, e2, e1, ⟨h0, q1⟩⟩ | ⟨rfl, _, e2, e1, ⟨h0, q1⟩⟩
       ·go_wp2_with fail
        go_meet
        exact ⟨rfl, rfl⟩
       ·go_wp2_with fail
        go_meet
        exact ⟨rfl, rfl⟩
       ·go_wp2_with fail
        go_meet
        exact ⟨rfl, rfl⟩
      case rest =>
      obtain ⟨hwx, hvx⟩ := hcut
      subst hwx
      subst hvx
      go_upto_if 108 with fail
      go_cut [12] from 108 to 128 (fun v wx => ∃ e : Nat, v = .int .i64 (e : Nat) /\ e <= V.size /\ Hid (z63 (ls V) = some ((ls V).take e, (ls V).drop (e + 1))) /\ z89 wx g10 (uc S U 0 ⟨#[]⟩ 0 z8 (-1) RR) /\ z89 wx g2 uz /\ Below w.heap.size w wx)
      case first =>
       rcases HQ.out with ⟨rfl, hne91, _, _⟩ | ⟨rfl, hne91, _, _, _⟩ | ⟨rfl, h91, _, _, _⟩
       ·have HC := jL (HS2.out hne91)
        clear hne91
        go_wp2_with fail
        go_meet
        exact ⟨k58, rfl, HL.out.1, HC, hr11, hr2, hbw⟩
       ·have HC := jL (HS2.out hne91)
        clear hne91
        go_wp2_with fail
        go_meet
        exact ⟨k58, rfl, HL.out.1, HC, hr11, hr2, hbw⟩
       ·have hl93 := HL.out.2
        have g0 : (k93 : Int) + 1 = ((k93 + 1 : Nat) : Int) := by omega
        by_cases hA : V.size < k93 + 1
        ·have HC := jL (HN1.out h91 (by rw [zb4]; exact hA))
         have hd : decide ((V.size : Int) < (k93 : Int) + 1) = true := jT (by omega)
         have HP4 : Hid (A9 = (4, uv0)) := jL (by rw [HPV.out, HC.out])
         clear h91 g0
         go_wp2_with (first
          | (go_at_call 60; refine (c4 _).mono ?_; rintro e w13 ⟨rfl, hb5⟩
             replace hr2 : z89 w13 g2 uz := Row.below hr2 hb5 (Row.lt hr2)
             replace hbw := hbw.trans (hb5.mono hbw.size)
             clear hb5)
          | (refine z9d rfl rfl _ _ rfl g2 (by exact rfl) uz (by exact rfl) uz hr2 rfl rfl (z83 _ _ _ _ _ _ _ _) ?_
             intro w7 hr7 hG7
             have hb7 := zau hbw hG7 jH hg2))
         exact z9e 2 3 rfl g2 rfl uz hr7 rfl _ rfl rfl ⟨by rw [HP4.out]; rfl, hb7⟩
        ·have hd : decide ((V.size : Int) < (k93 : Int) + 1) = false := jF (by omega)
         by_cases hB : k93 + 1 < V.size
         ·have hat : (ls V)[k93 + 1]? = some (V[k93 + 1]'hB) := Lib.data_getElem? V (k93 + 1) hB
          have hd2 : decide ((k93 : Int) + 1 < (V.size : Int)) = true := jT (by omega)
          by_cases h58 : V[k93 + 1]'hB = 58
          ·have hq : (((V[k93 + 1]'hB).toNat : Int) != 58) = false := by rw [h58]; rfl
           have HC := jL (HS1.out h91 (by rw [zb4]; omega) (.inr (by rw [hat, h58])))
           clear h91 h58 hat g0 hA
           go_wp2_with (go_at_call 60; refine (c4 _).mono ?_; rintro e w13 ⟨rfl, hb5⟩
                        replace hr11 : z89 w13 g10 (uc S U 0 ⟨#[]⟩ 0 z8 (-1) RR) := Row.below hr11 hb5 (Row.lt hr11)
                        replace hr2 : z89 w13 g2 uz := Row.below hr2 hb5 (Row.lt hr2)
                        replace hbw := hbw.trans (hb5.mono hbw.size)
                        clear hb5)
           go_meet
           exact ⟨k93 + 1, by go_num, by omega, HC, hr11, hr2, hbw⟩
          ·have hq : (((V[k93 + 1]'hB).toNat : Int) != 58) = true := by rw [bne, show (((V[k93 + 1]'hB).toNat : Int) == 58) = false from zrp (c := 58) h58]; rfl
           have HC := jL (HN2.out h91 _ hat h58)
           have HP4 : Hid (A9 = (4, uv0)) := jL (by rw [HPV.out, HC.out])
           clear h91 h58 hat g0 hA
           go_wp2_with (first
            | (go_at_call 60; refine (c4 _).mono ?_; rintro e w13 ⟨rfl, hb5⟩
               replace hr2 : z89 w13 g2 uz := Row.below hr2 hb5 (Row.lt hr2)
               replace hbw := hbw.trans (hb5.mono hbw.size)
               clear hb5)
            | (refine z9d rfl rfl _ _ rfl g2 (by exact rfl) uz (by exact rfl) uz hr2 rfl rfl (z83 _ _ _ _ _ _ _ _) ?_
               intro w7 hr7 hG7
               have hb7 := zau hbw hG7 jH hg2))
           exact z9e 2 3 rfl g2 rfl uz hr7 rfl _ rfl rfl ⟨by rw [HP4.out]; rfl, hb7⟩
         ·have hd2 : decide ((k93 : Int) + 1 < (V.size : Int)) = false := jF (by omega)
          have HC := jL (HS1.out h91 (by rw [zb4]; omega) (.inl (by rw [zb4]; omega)))
          clear h91 g0
          go_wp2_with (go_at_call 60; refine (c4 _).mono ?_; rintro e w13 ⟨rfl, hb5⟩
                       replace hr11 : z89 w13 g10 (uc S U 0 ⟨#[]⟩ 0 z8 (-1) RR) := Row.below hr11 hb5 (Row.lt hr11)
                       replace hr2 : z89 w13 g2 uz := Row.below hr2 hb5 (Row.lt hr2)
                       replace hbw := hbw.trans (hb5.mono hbw.size)
                       clear hb5)
          go_meet
          exact ⟨k93 + 1, by go_num, by omega, HC, hr11, hr2, hbw⟩
      case rest =>
      clear hr11 hr2 hbw HQ HS1 HS2 HN1 HN2 HL c4
      obtain ⟨e, rfl, he, HC, hr11, hr2, hbw⟩ := hcut
      obtain ⟨N, hN⟩ : ∃ N, N = V.extract 0 e := ⟨_, rfl⟩
      have hNl : ls N = (ls V).take e := by rw [hN, zb9, List.drop_zero, Nat.sub_zero]
      have hP5 : A9 = z65 L (ls U) (ls F) (ls N) ((ls V).drop (e + 1)) := by rw [HPV.out, HC.out, hNl]
      have zN : N.size <= 99999990 := by rw [<- zb4, hNl, List.length_take, zb4]; omega
      have cH := fun W => zjt N W (by omega)
      unfold zeh at cH
      have g1 : (e : Int) <= (V.size : Int) := by omega
      have HP5 := jL hP5
      obtain ⟨q9, hq9⟩ : ∃ q, q = zhw (ls N) := ⟨_, rfl⟩
      rw [<- hq9] at cH
      have HQ9 := jL hq9
      obtain ⟨n1, h⟩ := q9
      simp only at cH
      obtain ⟨C1, C2, H, eC1, eH, hC1, hH, hH1, hset, hC2, hC21, hC213, hcell⟩ := z8u (U := U) h HS.out HRR.out
      rw [eH] at cH
      rw [eC1] at hr11
      have HCELL := jL hcell
      have HSET := jL hset
      clear hcell eH eC1
      have HE0 : Hid (n1 ≠ 0 -> A9 = (n1, uv0)) := jL (by
       intro hn
       rw [HP5.out]
       unfold z65
       rw [<- HQ9.out, if_neg hn])
      have HE1 : Hid (n1 = 0 -> z61 ((ls V).drop (e + 1)) (z6r L) = none -> A9 = (16, uv0)) := jL (by
       intro hn hp
       rw [HP5.out]
       unfold z65
       rw [<- HQ9.out, if_pos hn, hp])
      have HE2 : Hid (n1 = 0 -> ∀ p, z61 ((ls V).drop (e + 1)) (z6r L) = some p -> A9 = (0, ⟨L, ls U, h, p, z64 (ls F)⟩)) := jL (by
       intro hn p hp
       rw [HP5.out]
       unfold z65
       rw [<- HQ9.out, if_pos hn, hp])
      clear hset hq9 hP5 hNl HP5 HPV HC HQ9
      rw [hN] at cH
      clear hN
      go_wp2_with fail
      refine (cH _).mono ?_
      rintro e9 w6 ⟨rfl, hb6⟩
      replace hr11 : z89 w6 g10 C1 := Row.below hr11 hb6 (Row.lt hr11)
      replace hr2 : z89 w6 g2 uz := Row.below hr2 hb6 (Row.lt hr2)
      replace hbw := hbw.trans (hb6.mono hbw.size)
      have hne10 : g10 ≠ w6.heap.size := Nat.ne_of_lt (Row.lt hr11)
      have hne2 : g2 ≠ w6.heap.size := Nat.ne_of_lt (Row.lt hr2)
      have hr13 : zgy (w6.alloc (.cells hz 26)) w6.heap.size hz := zat w6 _ _
      replace hr11 : z89 (w6.alloc (.cells hz 26)) g10 C1 := Row.grown0 hr11 (World.grownBy_alloc w6 _ _)
      replace hr2 : z89 (w6.alloc (.cells hz 26)) g2 uz := Row.grown0 hr2 (World.grownBy_alloc w6 _ _)
      have h13 := hbw.size
      replace hbw := hbw.alloc h13 (.cells hz 26)
      clear hb6 cH
      by_cases hn : n1 = 0
      ·subst hn
       replace HE1 := jL (HE1.out rfl)
       replace HE2 := jL (HE2.out rfl)
       go_upto_region 33 with (first
        | (refine zee rfl rfl _ _ rfl w6.heap.size (by exact rfl) H (by exact rfl) hz hr13 rfl hH hH1 ?_
           intro w7 hr13' hG7
           replace hr11 : z89 w7 g10 C1 := Row.grown hr11 hG7 hne10
           replace hr2 : z89 w7 g2 uz := Row.grown hr2 hG7 hne2
           replace hbw := zau hbw hG7 jH h13)
        | (refine zg0 rfl _ rfl w6.heap.size (by exact rfl) H hr13' hH ?_)
        | (refine z8h rfl rfl _ _ rfl g10 (by exact rfl) H (by exact rfl) C1 hr11 hC1 hH hH1 ?_
           intro hr14))
       go_simp
       rw [HSET.out] at hr14
       replace hr2 := Row.sets_other hne H.toList 2 w7 hr2
       replace hbw := Below.sets9 h10 H.toList 2 w7 hbw
       generalize w7.setCells g10 2 H.toList = w8 at *
       clear hr11 hr13 hr13' hG7 HSET
       have zD := jL he
       obtain ⟨std, hstd⟩ : ∃ z, z = z6r L := ⟨_, rfl⟩
       rw [<- hstd] at HE1 HE2
       have c5 := fun W => z8i S W
       rw [show z6r (ls S) = std by rw [HS.out, zb0, hstd]] at c5
       clear hstd
       go_upto_if 146 with fail
       go_cut [] from 142 to 179 (fun wx => ∃ p : Int, z89 wx g10 (C2.setIfInBounds 13 (.int .i64 p)) /\ Hid (z61 ((ls V).drop (e + 1)) std = some (if p = std then -1 else p)) /\ z89 wx g2 uz /\ Below w.heap.size w wx)
       case first =>
        by_cases hd : e + 1 < V.size
        ·have hd2 : decide ((e : Int) + 1 < (V.size : Int)) = true := jT (by omega)
         have hdne : (ls V).drop (e + 1) ≠ [] := fun h => by
          have := congrArg List.length h
          rw [List.length_drop, zb4] at this
          simp at this
          omega
         have HDN := jL hdne
         clear hdne
         go_wp2_with fail
         go_loop [15, 16] (fun nv i => ∃ (m x : Nat), e + 1 <= m /\ m <= V.size /\ i = .int .i64 (m : Nat) /\ nv = .int .i64 (x : Nat) /\ x <= 1048576 /\ Hid (x = z79 (((ls V).drop (e + 1)).take (m - (e + 1))) /\ (((ls V).drop (e + 1)).take (m - (e + 1))).all zbe = true)) (fun _ i => V.size - (intOf i).toNat)
         case atStart => exact ⟨e + 1, 0, jH, by omega, by go_num, rfl, by omega, jL (by rw [Nat.sub_self, List.take_zero]; exact ⟨z8a.symm, rfl⟩)⟩
         case round =>
          obtain ⟨m, x, hm1, hm2, rfl, rfl, hx1, HX⟩ := hrel
          by_cases hlt : m < V.size
          ·have hsn : ((ls V).drop (e + 1)).take (m + 1 - (e + 1)) = ((ls V).drop (e + 1)).take (m - (e + 1)) ++ [V[m]'hlt] := z8x hm1 hlt
           have hdg : zbe (V[m]'hlt) = true ↔ 48 <= (V[m]'hlt).toNat /\ (V[m]'hlt).toNat <= 57 := z8v _
           have hmem : (V[m]'hlt) ∈ (ls V).drop (e + 1) := z8y hm1 hlt
           have hbl := zce (V[m]'hlt)
           obtain ⟨y, hy⟩ : ∃ y : Int, y = ((V[m]'hlt).toNat : Int) := ⟨_, rfl⟩
           have hy0 : 0 <= y := by omega
           rw [<- hy] at hbl
           have t1 : ((V[m]'hlt).toNat : Int) = y := hy.symm
           have hdg2 : zbe (V[m]'hlt) = true ↔ 48 <= y /\ y <= 57 := by rw [hdg]; omega
           by_cases hdig : 48 <= y /\ y <= 57
           ·obtain ⟨x2, hx2⟩ : ∃ x2 : Nat, x2 = min (x * 10 + ((V[m]'hlt).toNat - 48)) 1048576 := ⟨_, rfl⟩
            have hx22 : min ((x : Int) * 10 + (y - 48)) 1048576 = (x2 : Int) := by rw [hx2]; omega
            have HX2 : Hid (x2 = z79 (((ls V).drop (e + 1)).take (m + 1 - (e + 1))) /\ (((ls V).drop (e + 1)).take (m + 1 - (e + 1))).all zbe = true) := jL (by
             rw [hsn, z8b _ (hdg2.2 hdig), <- HX.out.1]
             exact ⟨hx2, z8f HX.out.2 (hdg2.2 hdig)⟩)
            have hx3 : x2 <= 1048576 := by rw [hx2]; exact Nat.min_le_right _ _
            have hmin : ∀ (W : World) ts ty, (Builtin.min_ ts ty #[.int .i64 ((x : Int) * 10 + (y - 48)), .int .i64 1048576]).run Tryz.prog W = .ok (.int .i64 (x2 : Int)) W := fun W ts ty => zu3 W ts ty _ _ _ hx22
            have hw8 : IntKind.u8.wrap (y - 48) = y - 48 := by unfold IntKind.wrap; simp [IntKind.bits, IntKind.signed]; omega
            have y1 : 48 <= y := hdig.1
            have y2 : y <= 57 := hdig.2
            have y3 : ¬ y < 48 := by omega
            have y4 : ¬ 57 < y := by omega
            clear hsn hdg hmem hdg2 hdig hx2 hx22 hy HX
            go_wp2
            go_round
            case rel => exact ⟨m + 1, x2, by omega, by omega, by go_num, rfl, hx3, HX2⟩
            case measure => simp [intOf]; omega
           ·have hpn := z8c std hmem (by
             cases h9 : zbe (V[m]'hlt) with
             | false => rfl
             | true => exact absurd (hdg2.1 h9) hdig)
            have HP6 := jL (HE1.out hpn)
            have hyy : y < 48 \/ (¬ y < 48 /\ 57 < y) := by omega
            clear hsn hdg hmem hdg2 hdig hpn hy HX hm1
            rcases hyy with y1 | ⟨y1, y2⟩
            ·go_wp2_with (refine z9d rfl rfl _ _ rfl g2 (by exact rfl) uz (by exact rfl) uz hr2 rfl rfl (z83 _ _ _ _ _ _ _ _) ?_
                          intro w9 hr9 hG9
                          have hb9 := zau hbw hG9 jH hg2)
             exact z9e 2 3 rfl g2 rfl uz hr9 rfl _ rfl rfl ⟨by rw [HP6.out]; rfl, hb9⟩
            ·go_wp2_with (refine z9d rfl rfl _ _ rfl g2 (by exact rfl) uz (by exact rfl) uz hr2 rfl rfl (z83 _ _ _ _ _ _ _ _) ?_
                          intro w9 hr9 hG9
                          have hb9 := zau hbw hG9 jH hg2)
             exact z9e 2 3 rfl g2 rfl uz hr9 rfl _ rfl rfl ⟨by rw [HP6.out]; rfl, hb9⟩
          ·obtain rfl : m = V.size := by omega
           have hX := HX.out
           rw [List.take_of_length_le (by rw [List.length_drop, zb4]; exact jH)] at hX
           by_cases hbig : 65535 < x
           ·have hd3 : decide ((65535 : Int) < (x : Int)) = true := jT (by omega)
            have HP6 := jL (HE1.out (z8d std HDN.out hX.2 (by rw [<- hX.1]; exact hbig)))
            clear hX HX hm1 hd
            go_wp2_with (refine z9d rfl rfl _ _ rfl g2 (by exact rfl) uz (by exact rfl) uz hr2 rfl rfl (z83 _ _ _ _ _ _ _ _) ?_
                         intro w9 hr9 hG9
                         have hb9 := zau hbw hG9 jH hg2)
            exact z9e 2 3 rfl g2 rfl uz hr9 rfl _ rfl rfl ⟨by rw [HP6.out]; rfl, hb9⟩
           ·have hd3 : decide ((65535 : Int) < (x : Int)) = false := jF (by omega)
            have hpo := z8e std HDN.out hX.2 (by rw [<- hX.1]; exact hbig)
            rw [<- hX.1] at hpo
            have HPO := jL hpo
            clear hX HX hm1 hd hpo
            go_wp2_with (refine za1 _ rfl rfl _ _ _ rfl g10 13 (by exact rfl) (.int .i64 (x : Nat)) (by exact rfl) rfl _ C2 hr14 (by rw [hC2]; decide) (by exact z88) ?_
                         intro w12 hr12 hG12
                         replace hr2 : z89 w12 g2 uz := Row.grown hr2 hG12 hne
                         replace hbw := zau hbw hG12 jH h10)
            go_meet
            exact ⟨(x : Int), hr12, HPO, hr2, hbw⟩
        ·have hd2 : decide ((e : Int) + 1 < (V.size : Int)) = false := jF (by omega)
         have hnil : (ls V).drop (e + 1) = [] := List.drop_of_length_le (by rw [zb4]; omega)
         have HPO : Hid (z61 ((ls V).drop (e + 1)) std = some (if (-1 : Int) = std then -1 else -1)) := jL (by
          rw [hnil]
          unfold z61
          rw [if_pos rfl]
          split <;> rfl)
         rw [<- z9h hC213] at hr14
         clear hnil
         go_wp2_with fail
         go_meet
         exact ⟨-1, hr14, HPO, hr2, hbw⟩
       case rest =>
       clear hr14 hr2 hbw
       obtain ⟨p, hr14, HPO, hr2, hbw⟩ := hcut
       go_upto_region 44 with fail
       have e13 := Row.at9 hr14 (show (C2.setIfInBounds 13 (.int .i64 p))[13]? = some (.int .i64 p) by simp [hC2])
       have z3 : (C2.setIfInBounds 13 (.int .i64 p)).size = 15 := by rw [Array.size_setIfInBounds]; exact hC2
       have o3 : (C2.setIfInBounds 13 (.int .i64 p)).all (·.oneCell') = true := z6k hC21 rfl
       have hset2 : (C2.setIfInBounds 13 (.int .i64 p)).setIfInBounds 13 (.int .i64 (-1)) = C2.setIfInBounds 13 (.int .i64 (-1)) := by simp
       have HP7 := jL (HE2.out _ HPO.out)
       have HS2 := jL hset2
       clear hset2
       by_cases hps : p = std
       ·have hq : (p == std) = true := by rw [hps]; simp
        have HP8 : Hid (A9 = (0, ⟨L, ls U, h, -1, z64 (ls F)⟩)) := jL (by rw [HP7.out, if_pos hps])
        generalize C2.setIfInBounds 13 (.int .i64 p) = C3 at *
        have z4 : (C3.setIfInBounds 13 (.int .i64 (-1))).size = 15 := by rw [Array.size_setIfInBounds]; exact z3
        have o4 : (C3.setIfInBounds 13 (.int .i64 (-1))).all (·.oneCell') = true := z6k o3 rfl
        clear hps HP7
        go_quiet ((go_at_call 40; exact z4q (c5 _)))
        clear e13
        replace hr14 : z89 (wc.drewN nq) g10 C3 := Row.below hr14 (below_drewN wc nq) (Row.lt hr14)
        replace hr2 : z89 (wc.drewN nq) g2 uz := Row.below hr2 (below_drewN wc nq) (Row.lt hr2)
        replace hbw := hbw.trans ((below_drewN wc nq).mono hbw.size)
        generalize wc.drewN nq = w10 at *
        go_wp2_with (first
         | (refine za1 _ rfl rfl _ _ _ rfl g10 13 (by exact rfl) _ rfl rfl _ C3 hr14 (by rw [z3]; decide) (by exact z88) ?_
            intro w11 hr11 hG11
            replace hr2 : z89 w11 g2 uz := Row.grown hr2 hG11 hne
            replace hbw := zau hbw hG11 jH h10)
         | (refine z9b (by rfl) _ rfl g10 (by exact rfl) _ hr11 z4 ?_)
         | (refine z9d rfl rfl _ _ rfl g2 (by exact rfl) (C3.setIfInBounds 13 (.int .i64 (-1))) (by exact rfl) uz hr2 rfl z4 o4 ?_
            intro w12 hr12 hG12
            have hb12 := zau hbw hG12 jH hg2))
        exact z9e 2 3 rfl g2 rfl _ hr12 z4 _ rfl rfl ⟨by rw [HP8.out]; show _ = Ending.returned (.tuple #[.agg (Uv.mk L (ls U) h (-1) (z64 (ls F))).cells, .int .i64 0]); rw [HCELL.out, <- HS2.out]; rfl, hb12⟩
       ·have hq : (p == std) = false := by rw [beq_eq_false_iff_ne]; exact hps
        have HP8 : Hid (A9 = (0, ⟨L, ls U, h, p, z64 (ls F)⟩)) := jL (by rw [HP7.out, if_neg hps])
        generalize hC3 : C2.setIfInBounds 13 (.int .i64 p) = C3 at *
        have HC3 := jL hC3
        clear hps HP7 hC3
        go_quiet ((go_at_call 40; exact z4q (c5 _)))
        clear e13
        replace hr14 : z89 (wc.drewN nq) g10 C3 := Row.below hr14 (below_drewN wc nq) (Row.lt hr14)
        replace hr2 : z89 (wc.drewN nq) g2 uz := Row.below hr2 (below_drewN wc nq) (Row.lt hr2)
        replace hbw := hbw.trans ((below_drewN wc nq).mono hbw.size)
        generalize wc.drewN nq = w10 at *
        go_wp2_with (first
         | (refine z9b (by rfl) _ rfl g10 (by exact rfl) C3 hr14 z3 ?_)
         | (refine z9d rfl rfl _ _ rfl g2 (by exact rfl) C3 (by exact rfl) uz hr2 rfl z3 o3 ?_
            intro w12 hr12 hG12
            have hb12 := zau hbw hG12 jH hg2))
        exact z9e 2 3 rfl g2 rfl C3 hr12 z3 _ rfl rfl ⟨by rw [HP8.out]; show _ = Ending.returned (.tuple #[.agg (Uv.mk L (ls U) h p (z64 (ls F))).cells, .int .i64 0]); rw [HCELL.out, HC3.out]; rfl, hb12⟩
      ·have hne : ((n1 : Int) != 0) = true := by rw [bne, beq_eq_false_iff_ne.2 (by omega)]; rfl
       have HP6 := jL (HE0.out hn)
       clear hn
       go_wp2_with (first
        | (refine zee rfl rfl _ _ rfl w6.heap.size (by exact rfl) H (by exact rfl) hz hr13 rfl hH hH1 ?_
           intro w7 hr13' hG7
           replace hr2 : z89 w7 g2 uz := Row.grown hr2 hG7 hne2
           replace hbw := zau hbw hG7 jH h13)
        | (refine z9d rfl rfl _ _ rfl g2 (by exact rfl) uz (by exact rfl) uz hr2 rfl rfl (z83 _ _ _ _ _ _ _ _) ?_
           intro w9 hr9 hG9
           have hb9 := zau hbw hG9 jH hg2))
       exact z9e 2 3 rfl g2 rfl uz hr9 rfl _ rfl rfl ⟨by rw [HP6.out]; rfl, hb9⟩
     ·have HP : Hid (A9 = (4, uv0)) := jL (by rw [hP2]; unfold z67; rw [if_neg h2])
      have h9 : decide ((X.size : Int) < 2) = true \/ (decide ((X.size : Int) < 2) = false /\ 2 <= X.size /\ ((X.extract 0 2).toList == [47, 47]) = false) := by
       by_cases hx : X.size < 2
       ·left; exact jT (by omega)
       ·right
        refine ⟨jF (by omega), by omega, ?_⟩
        rw [zb3, zb9, List.drop_zero, hX, zb0, beq_eq_false_iff_ne]
        exact h2
      clear hP2 hS hX h2
      rcases h9 with q1 | ⟨q1, q2, q3⟩
      ·go_wp2_with (first
        | (go_at_call 59; refine (c1 _).mono ?_; rintro e w5 ⟨rfl, hb5⟩
           replace hr2 : z89 w5 g2 uz := Row.below hr2 hb5 (Row.lt hr2)
           replace hbw := hbw.trans (hb5.mono hbw.size)
           clear hb5)
        | (go_at_call 15; refine (c2 _).mono ?_; rintro e w6 ⟨rfl, rfl⟩)
        | (refine z9d rfl rfl _ _ rfl g2 (by exact rfl) uz (by exact rfl) uz hr2 rfl rfl (z83 _ _ _ _ _ _ _ _) ?_
           intro w7 hr7 hG7
           have hb7 := zau hbw hG7 jH hg2))
       exact z9e 2 3 rfl g2 rfl uz hr7 rfl _ rfl rfl ⟨by rw [HP.out]; rfl, hb7⟩
      ·have q4 : (2 : Int) <= (X.size : Int) := by omega
       go_wp2_with (first
        | (go_at_call 59; refine (c1 _).mono ?_; rintro e w5 ⟨rfl, hb5⟩
           replace hr2 : z89 w5 g2 uz := Row.below hr2 hb5 (Row.lt hr2)
           replace hbw := hbw.trans (hb5.mono hbw.size)
           clear hb5)
        | (go_at_call 15; refine (c2 _).mono ?_; rintro e w6 ⟨rfl, rfl⟩)
        | (refine z9d rfl rfl _ _ rfl g2 (by exact rfl) uz (by exact rfl) uz hr2 rfl rfl (z83 _ _ _ _ _ _ _ _) ?_
           intro w7 hr7 hG7
           have hb7 := zau hbw hG7 jH hg2))
       exact z9e 2 3 rfl g2 rfl uz hr7 rfl _ rfl rfl ⟨by rw [HP.out]; rfl, hb7⟩
    ·have HP : Hid (A9 = (0, ⟨L, [], hv0, -1, R⟩)) := jL (by rw [hP1, if_neg hsp])
     have hspf : z6s L = false := by simpa using hsp
     rw [hspf] at c2
     have HR : Hid ((Uv.mk L [] hv0 (-1) R).cells = uc S ⟨#[]⟩ 0 ⟨#[]⟩ 0 z8 (-1) X) := jL (by rw [hS, hX]; rfl)
     clear hP1 hsp hspf hS hX
     go_wp2_with (first
      | (go_at_call 59; refine (c1 _).mono ?_; rintro e w5 ⟨rfl, hb5⟩
         replace hr2 : z89 w5 g2 uz := Row.below hr2 hb5 (Row.lt hr2)
         replace hbw := hbw.trans (hb5.mono hbw.size)
         clear hb5)
      | (go_at_call 15; refine (c2 _).mono ?_; rintro e w6 ⟨rfl, rfl⟩)
      | (refine z9d rfl rfl _ _ rfl g2 (by exact rfl) (uc S ⟨#[]⟩ 0 ⟨#[]⟩ 0 z8 (-1) X) (by exact rfl) uz hr2 rfl rfl (z83 _ _ _ _ _ _ _ _) ?_
         intro w7 hr7 hG7
         have hb7 := zau hbw hG7 jH hg2))
     exact z9e 2 3 rfl g2 rfl _ hr7 rfl _ rfl rfl ⟨by rw [HP.out]; show _ = Ending.returned (.tuple #[.agg (Uv.mk L [] hv0 (-1) R).cells, .int .i64 0]); rw [HR.out]; rfl, hb7⟩
   ·have HP : Hid (A9 = (15, uv0)) := jL (by rw [hP0, if_neg hq])
    simp only [if_neg hq] at c1
    clear hP0 hq hlb hld hlB
    go_wp2_with (first
     | (go_at_call 59; refine (c1 _).mono ?_; rintro e w5 ⟨rfl, hb5⟩
        replace hr2 : z89 w5 g2 uz := Row.below hr2 hb5 (Row.lt hr2)
        replace hbw := hbw.trans (hb5.mono hbw.size)
        clear hb5)
     | (refine z9d rfl rfl _ _ rfl g2 (by exact rfl) uz (by exact rfl) uz hr2 rfl rfl (z83 _ _ _ _ _ _ _ _) ?_
        intro w7 hr7 hG7
        have hb7 := zau hbw hG7 jH hg2))
    exact z9e 2 3 rfl g2 rfl uz hr7 rfl _ rfl rfl ⟨by rw [HP.out]; rfl, hb7⟩
end

end Go.Proofs.YtekaljeicfjkjaaGreatDoor
