/-
Contract of Parse of the reference of layer 11.
Digits laid in front of a string: no function of the program.
Contracts of hexText and Format of the reference of layer 11 (written by tools/gen-I64.py).
What every walk of a statement ends in. No program.
The powers of ten that Go's own library reads lie in the world; what is made beside them leaves them there.
The tables that Go's own library reads to append a number, to the base 10 or 16, lie in the world; what is made beside them leaves them there.
-/
import Derived.Test.YtekaljeicfjkjaaGreatDoorK08
import Derived.Test.YtekaljeicfjkjaaGreatDoorK03
import Derived.Test.YtekaljeicfjkjaaGreatDoorK04
import Derived.Test.YtekaljeicfjkjaaGreatDoorK00
import Derived.Test.YtekaljeicfjkjaaGreatDoorRows
import Derived.Below
import Derived.Lib.LaidTab
import Derived.Lib.ItoaNum
namespace Go.Proofs.YtekaljeicfjkjaaGreatDoor
section
open Go.RowKit
set_option maxHeartbeats 16000000
def zkn (o : Option (List Nat)) : List Nat := o.getD (znt 8)
theorem zko : (znt 8).length = 8 := rfl
theorem zkp : ∀ (l : List UInt8) (i k : Nat), zns l i = some k -> i <= k /\ k + 2 <= i + l.length
 | [], _, _, h => by cases h
 | [_], _, _, h => by cases h
 | a :: b :: r, i, k, h => by
   rw [zns] at h
   split at h
   ·simp only [Option.some.injEq] at h; subst h; simp
   ·have := zkp (b :: r) (i + 1) k h
    simp at this ⊢; omega
theorem zkq {w : World} {base n : Nat} {v : Value} {g : List Nat} (h : w.ownsRow base 23 1 v n (uv g)) : ∃ A c, v = .slice A n c /\ n <= c /\ ∀ j, j < n -> ∃ gb, A = some ⟨gb, 0, none⟩ /\ base <= gb /\ gb < w.heap.size /\ w.cell? ⟨gb, j, none⟩ = some (.int .u16 ((g.getD j 0 : Nat) : Int)) := by
 have hx := h
 rcases h.2 with ⟨rfl, h0⟩ | ⟨gb, cap, cur, rfl, hb, hg, hnc, _⟩
 ·subst h0
  exact ⟨none, 0, rfl, jH, fun j hj => by omega⟩
 ·refine ⟨_, cap, rfl, hnc, fun j hj => ⟨gb, rfl, hb, ?_, ?_⟩⟩
  ·exact (Array.getElem?_eq_some_iff.1 hg).1
  ·obtain ⟨g', cap', hv, _, hlt, hc⟩ := zcr hx (by omega)
   injection hv with hv1 hv2 hv3
   injection hv1 with hv1
   injection hv1 with e1 _ _
   subst e1
   have hl : (uv g).length = n := by simpa using hx.1
   have := hc j (by omega)
   rw [this]
   rw [zkb] at hl
   simp [uv, List.getD_eq_getElem?_getD, List.getElem?_eq_getElem (show j < g.length by omega)]
structure PA (w W2 w3 wr : World) (a1 r1 : Nat) (C : List Nat) : Prop where
 ra : zaj wr a1 C
 rr : zaj wr r1 (znt 8)
 len : C.length = 8
 old : ∀ gb, W2.heap.size <= gb -> gb < w3.heap.size -> wr.heap[gb]? = w3.heap[gb]?
 bel : Below w.heap.size w wr
theorem PA.cell {w W2 w3 wr : World} {a1 r1 : Nat} {C : List Nat} (h : PA w W2 w3 wr a1 r1 C) {gb j : Nat} {v : Value} (h1 : W2.heap.size <= gb) (h2 : gb < w3.heap.size) (hc : w3.cell? ⟨gb, j, none⟩ = some v) : wr.cell? ⟨gb, j, none⟩ = some v := by
 rw [<- hc]
 unfold World.cell?
 rw [h.old gb h1 h2]
theorem PA.set {w W2 w3 wr w' : World} {a1 r1 k x : Nat} {C : List Nat} (h : PA w W2 w3 wr a1 r1 C) (ha : a1 < W2.heap.size) (hne : r1 ≠ a1) (hw : w.heap.size <= a1)
 (hr : Row w' a1 24 ((av C).setIfInBounds k (.int .u16 (x : Int)))) (hg : wr.grownBy w' (some a1)) : PA w W2 w3 w' a1 r1 (C.set k x) := by
 refine ⟨?_, h.rr.grown hg hne, by simp [h.len], fun gb h1 h2 => ?_, zau h.bel hg jH hw⟩
 ·rw [zab] at hr; exact hr
 ·have hlt : gb < wr.heap.size := by
   have := h.old gb h1 h2
   rw [Array.getElem?_eq_getElem h2] at this
   exact (Array.getElem?_eq_some_iff.1 this).1
  rw [hg.block gb hlt (fun e => by injection e with e; omega)]
  exact h.old gb h1 h2
theorem zkr : ∀ (P : List (List UInt8)) (last : Bool) (g : List Nat), znq P last = some g -> g.length <= P.length + 1
 | [], _, g, h => by
   rw [znq] at h
   simp only [Option.some.injEq] at h
   subst h; simp
 | [x], last, g, h => by
   rw [zki] at h
   split at h
   ·simp only [Option.some.injEq] at h; subst h; simp
   ·split at h
    ·simp only [Option.some.injEq] at h; subst h; simp
    ·cases h
 | x :: y :: r, last, g, h => by
   rw [znq] at h
   split at h
   ·cases h
   ·cases hr : znq (y :: r) last with
    | none => rw [hr] at h; cases h
    | some m =>
      rw [hr] at h
      simp only [Option.some.injEq] at h
      have := zkr (y :: r) last m hr
      subst h
      simp at this ⊢; omega
theorem zks {l : List UInt8} {last : Bool} {g : List Nat} (h : znr l last = some g) : g.length <= l.length + 2 := by
 unfold znr at h
 split at h
 ·simp only [Option.some.injEq] at h; subst h; simp
 ·have := zkr _ _ _ h
  have := z3f 58 l
  omega
theorem PA.more {w W2 w3 w4 wr : World} {a1 r1 : Nat} {C : List Nat} (_h : PA w W2 w3 wr a1 r1 C) (_hb : Below w3.heap.size w3 w4) (_he : wr = w4) : True := trivial
set_option maxRecDepth 20000 in
theorem zkt (s : ByteArray) (w : World) (hs : s.size <= 1000000000) :
 Calls Tryz.prog 88 #[.string s] w fun e w' => e = .returned (.tuple #[.agg (av (zkn (znu (ls s)))), .bool (znu (ls s)).isSome]) /\ Below w.heap.size w w' := by
 have hdc := fun W => zj6 s W hs
 have HPD : Hid (znu (ls s) = match zns (ls s) 0 with
  | none => match znr (ls s) true with
    | some g => if g.length = 8 then some g else none
    | none => none
  | some k => match znr ((ls s).take k) false with
    | none => none
    | some g => match znr ((ls s).drop (k + 2)) true with
      | none => none
      | some h => if g.length + h.length <= 7 then some (g ++ (znt (8 - g.length - h.length) ++ h)) else none) := jL rfl
 unfold zj3 at hdc
 go_enter Tryz.func88, Tryz.ntmps88
 go_wp2_with (first
  | (refine zay _ rfl 2 rfl _ rfl _ zai ?_; intro W1 r1 hr1 hl1 hR1 hG1)
  | (refine zay _ rfl 4 rfl _ rfl _ zai ?_; intro W2 a1 ha1 hl2 hA1 hG2))
 have hb1 := zav (Below.refl w.heap.size w) hG1 jH
 have hb2 := zav hb1 hG2 jH
 have hR2 : zaj W2 r1 (znt 8) := hR1.grown0 hG2
 have hA2 : zaj W2 a1 (znt 8) := hA1
 have hne : r1 ≠ a1 := by omega
 have haw : w.heap.size <= a1 := Nat.le_trans hb1.size ha1
 have hrl : r1 < W2.heap.size := hR2.lt
 have HB2 := jL hb2
 clear hR1 hG1 hA1 hG2 hb1 hb2 ha1 hl1
 refine (hdc _).mono ?_
 rintro r w' ⟨rfl, rfl⟩
 clear hdc
 cases hdb : zns (ls s) 0 with
 | none =>
   rw [hdb] at HPD
   simp only at HPD ⊢
   have c1 := zkm s true W2 hs
   generalize znr (ls s) true = G at *
   clear hdb
   go_wp2_with fail
   refine c1.mono ?_
   rintro e w3 ⟨v, rfl, hown, hb3⟩
   obtain ⟨A, c, rfl, hnc, hcells⟩ := zkq hown
   have hA3 := hA2.below hb3 hl2
   have hR3 := hR2.below hb3 hrl
   have HB3 := jL (HB2.out.trans (hb3.mono HB2.out.size))
   clear c1 hown
   by_cases h8 : ∃ g, G = some g /\ g.length = 8
   ·obtain ⟨g, rfl, hg8⟩ := h8
    have HP : Hid (znu (ls s) = some g) := by show _ = _; rw [HPD.out]; simp only; rw [if_pos hg8]
    have hPA : PA w W2 w3 w3 a1 r1 (znt 8) := ⟨hA3, hR3, rfl, fun _ _ _ => rfl, HB3.out⟩
    simp only [Option.getD_some, Option.isSome_some] at hnc hcells ⊢
    rw [hg8] at hnc hcells ⊢
    have HG8 := jL hg8
    have HPA := jL hPA
    clear hPA hA3 hR3 hg8
    go_wp2_with fail
    go_loopw [8] (fun i wr => ∃ (k : Nat) (C : List Nat), k <= 8 /\ i = .int .i64 k /\ Hid (C = g.take k ++ znt (8 - k)) /\ Hid (PA w W2 w3 wr a1 r1 C)) (fun i _ => 8 - (intOf i).toNat)
    case atStart => exact ⟨0, znt 8, Nat.zero_le _, rfl, jL (by simp), HPA⟩
    case round =>
     obtain ⟨k, C, hk, rfl, HC, HQ⟩ := hrel
     by_cases hlt : k < 8
     ·obtain ⟨gb, hAe, hg1, hg2, hgc⟩ := hcells k hlt
      subst hAe
      have hc := HQ.out.cell hg1 hg2 hgc
      have hrow := HQ.out.ra
      have hkC : k < (av C).size := by rw [zaa, HQ.out.len]; exact hlt
      have HSET : Hid (C.set k (g.getD k 0) = g.take (k + 1) ++ znt (8 - (k + 1))) := by
       show _ = _
       rw [HC.out, zal g k 8 (by rw [HG8.out]; exact hlt) hlt]
      generalize g.getD k 0 = x at *
      clear hgc
      go_wp2_with (refine za1 _ rfl rfl _ _ _ rfl a1 k (by exact rfl) _ (by exact rfl) (by exact rfl) _ (av C) hrow hkC zka ?_; intro w4 hr4 hg4)
      go_roundw
      case rel => exact ⟨k + 1, C.set k x, by omega, by go_num, HSET, jL (HQ.out.set hl2 hne haw hr4 hg4)⟩
      case measure => simp [intOf]; omega
     ·obtain rfl : k = 8 := by omega
      have HCg : Hid (C = g) := by show _ = _; rw [HC.out, List.take_of_length_le (by rw [HG8.out]; exact jH)]; simp [znt]
      have hrow := HQ.out.ra
      have hrr := HQ.out.rr
      have hcl := HQ.out.len
      go_wp2_with (first
       | (refine zaz _ rfl _ _ rfl a1 (by exact rfl) _ (av C) hrow 8 _ zae (zah C hcl) ?_)
       | (refine za0 _ rfl rfl _ _ _ rfl r1 (by exact rfl) (av C) (by exact rfl) _ _ hrr (zah C hcl) (by rw [zaa, zaa, hcl]; rfl) (zac C) ?_; intro w5 hr5 hg5))
      refine zak _ _ rfl r1 rfl C hr5 hcl _ rfl rfl ?_
      refine ⟨?_, zau HQ.out.bel hg5 jH (by have := HB2.out.size; omega)⟩
      rw [HP.out, HCg.out]; rfl
   ·have HP : Hid (znu (ls s) = none) := by
     show _ = _
     rw [HPD.out]
     cases G with
     | none => rfl
     | some g => simp only; rw [if_neg (fun h => h8 ⟨g, rfl, h⟩)]
    have hz := zko
    cases G with
    | none =>
      clear h8
      go_wp2_with (first
       | (refine zaz _ rfl _ _ rfl a1 (by exact rfl) _ (av (znt 8)) hA3 8 _ zae (zah _ rfl) ?_)
       | (refine za0 _ rfl rfl _ _ _ rfl r1 (by exact rfl) (av (znt 8)) (by exact rfl) _ _ hR3 (zah _ rfl) rfl (zac _) ?_; intro w5 hr5 hg5))
      refine zak _ _ rfl r1 rfl (znt 8) hr5 rfl _ rfl rfl ?_
      refine ⟨?_, zau HB3.out hg5 jH (by have := HB2.out.size; omega)⟩
      rw [HP.out]; rfl
    | some g =>
      have hg8 : ((g.length : Int) != 8) = true := by simp; intro h; exact h8 ⟨g, rfl, by omega⟩
      simp only [Option.getD_some, Option.isSome_some]
      obtain ⟨gl, hgl⟩ : ∃ n : Nat, n = g.length := ⟨_, rfl⟩
      rw [<- hgl] at hg8 ⊢
      clear h8 hcells hnc hgl
      go_wp2_with (first
       | (refine zaz _ rfl _ _ rfl a1 (by exact rfl) _ (av (znt 8)) hA3 8 _ zae (zah _ rfl) ?_)
       | (refine za0 _ rfl rfl _ _ _ rfl r1 (by exact rfl) (av (znt 8)) (by exact rfl) _ _ hR3 (zah _ rfl) rfl (zac _) ?_; intro w5 hr5 hg5))
      refine zak _ _ rfl r1 rfl (znt 8) hr5 rfl _ rfl rfl ?_
      refine ⟨?_, zau HB3.out hg5 jH (by have := HB2.out.size; omega)⟩
      rw [HP.out]; rfl
 | some i =>
   have hbd := zkp (ls s) 0 i hdb
   rw [zb4] at hbd
   rw [hdb] at HPD
   simp only at HPD ⊢
   have hi2 : i + 2 <= s.size := by omega
   have hil : (i : Int) <= (s.size : Int) := by omega
   have hineg : ¬ (i : Int) < 0 := by omega
   obtain ⟨j, hj⟩ : ∃ j, j = i + 2 := ⟨_, rfl⟩
   have hji : (i : Int) + 2 = (j : Int) := by omega
   have hjs : j <= s.size := by omega
   have c1 := fun W => zkm (s.extract 0 i) false W (by rw [ByteArray.size_extract]; omega)
   have c2 := fun W => zkm (s.extract j s.size) true W (by rw [ByteArray.size_extract]; omega)
   have l1 : ls (s.extract 0 i) = (ls s).take i := by rw [zbw, zb0]; unfold sub; simp
   have l2 : ls (s.extract j s.size) = (ls s).drop (i + 2) := by
    rw [zbw, zb0, hj]; unfold sub
    exact List.take_of_length_le (by rw [List.length_drop, zb4]; omega)
   rw [l1] at c1
   rw [l2] at c2
   have HGL : Hid (∀ g, znr ((ls s).take i) false = some g -> g.length <= 1000000002) := jL fun g hg => by have := zks hg; rw [List.length_take, zb4] at this; omega
   have HHL : Hid (∀ g, znr ((ls s).drop (i + 2)) true = some g -> g.length <= 1000000002) := jL fun g hg => by have := zks hg; rw [List.length_drop, zb4] at this; omega
   generalize znr ((ls s).take i) false = G at *
   generalize znr ((ls s).drop (i + 2)) true = H at *
   clear hdb hbd l1 l2 hj
   go_wp2_with fail
   refine (c1 _).mono ?_
   rintro e w3 ⟨v, rfl, hown, hb3⟩
   obtain ⟨A, c, rfl, hnc, hcells⟩ := zkq hown
   have hA3 := hA2.below hb3 hl2
   have hR3 := hR2.below hb3 hrl
   have hs23 := hb3.size
   clear c1 hown
   go_wp2_with fail
   refine (c2 _).mono ?_
   rintro e w4 ⟨v, rfl, hown, hb4⟩
   obtain ⟨A', c', rfl, hnc', hcells'⟩ := zkq hown
   have hA4 := hA3.below hb4 (Nat.lt_of_lt_of_le hl2 hs23)
   have hR4 := hR3.below hb4 (Nat.lt_of_lt_of_le hrl hs23)
   have hs34 := hb4.size
   have HCG : Hid (∀ j, j < (G.getD []).length -> ∃ gb, A = some ⟨gb, 0, none⟩ /\ W2.heap.size <= gb /\ gb < w4.heap.size /\ w4.cell? ⟨gb, j, none⟩ = some (.int .u16 (((G.getD []).getD j 0 : Nat) : Int))) := by
    refine jL fun j hj => ?_
    obtain ⟨gb, e1, e2, e3, e4⟩ := hcells j hj
    exact ⟨gb, e1, e2, by omega, (hb4.cell (p := ⟨gb, j, none⟩) e3).trans e4⟩
   have HCH : Hid (∀ j, j < (H.getD []).length -> ∃ gb, A' = some ⟨gb, 0, none⟩ /\ W2.heap.size <= gb /\ gb < w4.heap.size /\ w4.cell? ⟨gb, j, none⟩ = some (.int .u16 (((H.getD []).getD j 0 : Nat) : Int))) := by
    refine jL fun j hj => ?_
    obtain ⟨gb, e1, e2, e3, e4⟩ := hcells' j hj
    exact ⟨gb, e1, by omega, e3, e4⟩
   have HB4 := jL (HB2.out.trans ((hb3.trans (hb4.mono hb3.size)).mono HB2.out.size))
   clear c2 hown hcells hcells' hA2 hR2 hA3 hR3 hb3 hb4
   by_cases h8 : ∃ g h, G = some g /\ H = some h /\ g.length + h.length <= 7
   ·obtain ⟨g, h, rfl, rfl, hgh⟩ := h8
    have HP : Hid (znu (ls s) = some (g ++ (znt (8 - g.length - h.length) ++ h))) := by show _ = _; rw [HPD.out]; simp only; rw [if_pos hgh]
    have hPA : PA w W2 w4 w4 a1 r1 (znt 8) := ⟨hA4, hR4, rfl, fun _ _ _ => rfl, HB4.out⟩
    simp only [Option.getD_some, Option.isSome_some] at hnc hnc' HCG HCH ⊢
    obtain ⟨n, hn⟩ : ∃ n : Nat, n = g.length := ⟨_, rfl⟩
    obtain ⟨m, hm⟩ : ∃ m : Nat, m = h.length := ⟨_, rfl⟩
    rw [<- hn] at hnc HCG ⊢
    rw [<- hm] at hnc' HCH ⊢
    have hnm : n + m <= 7 := by omega
    have hdec : decide ((7 : Int) < (n : Int) + (m : Int)) = false := jF (by omega)
    have HN := jL hn
    have HM := jL hm
    have HPA := jL hPA
    clear hPA hA4 hR4 hgh hn hm
    go_wp2_with fail
    go_loopw [13] (fun i wr => ∃ (k : Nat) (C : List Nat), k <= n /\ i = .int .i64 k /\ Hid (C = g.take k ++ znt (8 - k)) /\ Hid (PA w W2 w4 wr a1 r1 C)) (fun i _ => n - (intOf i).toNat)
    case atStart => exact ⟨0, znt 8, Nat.zero_le _, rfl, jL (by simp), HPA⟩
    case round =>
     obtain ⟨k, C, hk, rfl, HC, HQ⟩ := hrel
     by_cases hlt : k < n
     ·obtain ⟨gb, hAe, hg1, hg2, hgc⟩ := HCG.out k hlt
      subst hAe
      have hc := HQ.out.cell hg1 hg2 hgc
      have hrow := HQ.out.ra
      have hk8 : k < 8 := by omega
      have hkC : k < (av C).size := by rw [zaa, HQ.out.len]; exact hk8
      have HSET : Hid (C.set k (g.getD k 0) = g.take (k + 1) ++ znt (8 - (k + 1))) := by
       show _ = _
       rw [HC.out, zal g k 8 (by rw [<- HN.out]; exact hlt) hk8]
      generalize g.getD k 0 = x at *
      clear hgc
      go_wp2_with (refine za1 _ rfl rfl _ _ _ rfl a1 k (by exact rfl) _ (by exact rfl) (by exact rfl) _ (av C) hrow hkC zka ?_; intro w5 hr5 hg5)
      go_roundw
      case rel => exact ⟨k + 1, C.set k x, by omega, by go_num, HSET, jL (HQ.out.set hl2 hne haw hr5 hg5)⟩
      case measure => simp [intOf]; omega
     ·obtain rfl : k = n := by omega
      have HC0 : Hid (C = g ++ znt (8 - k)) := by show _ = _; rw [HC.out, List.take_of_length_le (by rw [<- HN.out]; exact jH)]
      clear HC
      go_wp2_with fail
      go_loopw [14] (fun i wr => ∃ (q : Nat) (C : List Nat), q <= m /\ i = .int .i64 q /\ Hid (C = (g ++ znt (8 - k - m)) ++ (h.take q ++ znt (m - q))) /\ Hid (PA w W2 w4 wr a1 r1 C)) (fun i _ => m - (intOf i).toNat)
      case atStart =>
       refine ⟨0, C, Nat.zero_le _, rfl, jL ?_, HQ⟩
       rw [HC0.out, List.append_assoc]
       congr 1
       simp only [List.take_zero, List.nil_append, znt, List.replicate_append_replicate]
       congr 1
       omega
      case round =>
       obtain ⟨q, D, hq, rfl, HD, HQ2⟩ := hrel
       by_cases hqlt : q < m
       ·obtain ⟨gb, hAe, hg1, hg2, hgc⟩ := HCH.out q hqlt
        subst hAe
        have hc := HQ2.out.cell hg1 hg2 hgc
        have hrow := HQ2.out.ra
        obtain ⟨t, ht⟩ : ∃ t, t = 8 - m + q := ⟨_, rfl⟩
        have ht1 : (8 : Int) - (m : Int) + (q : Int) = (t : Int) := by omega
        have ht8 : t < 8 := by omega
        have hm8 : m <= 8 := by omega
        have hkC : t < (av D).size := by rw [zaa, HQ2.out.len]; exact ht8
        have HSET : Hid (D.set t (h.getD q 0) = (g ++ znt (8 - k - m)) ++ (h.take (q + 1) ++ znt (m - (q + 1)))) := by
         show _ = _
         have hpl : (g ++ znt (8 - k - m)).length + q = t := by simp [znt]; have := HN.out; omega
         rw [HD.out, <- hpl, zam _ h q m (by rw [<- HM.out]; exact hqlt) hqlt]
        generalize h.getD q 0 = x at *
        clear hgc ht
        go_wp2_with (refine za1 _ rfl rfl _ _ _ rfl a1 t (by exact rfl) _ (by exact rfl) (by exact rfl) _ (av D) hrow hkC zka ?_; intro w6 hr6 hg6)
        go_roundw
        case rel => exact ⟨q + 1, D.set t x, by omega, by go_num, HSET, jL (HQ2.out.set hl2 hne haw hr6 hg6)⟩
        case measure => simp [intOf]; omega
       ·obtain rfl : q = m := by omega
        have HCg : Hid (D = g ++ (znt (8 - g.length - h.length) ++ h)) := by
         show _ = _
         rw [HD.out, List.take_of_length_le (by rw [<- HM.out]; exact jH), Nat.sub_self, HN.out, HM.out]
         simp [znt]
        have hrow := HQ2.out.ra
        have hrr := HQ2.out.rr
        have hcl := HQ2.out.len
        go_wp2_with (first
         | (refine zaz _ rfl _ _ rfl a1 (by exact rfl) _ (av D) hrow 8 _ zae (zah D hcl) ?_)
         | (refine za0 _ rfl rfl _ _ _ rfl r1 (by exact rfl) (av D) (by exact rfl) _ _ hrr (zah D hcl) (by rw [zaa, zaa, hcl]; rfl) (zac D) ?_; intro w7 hr7 hg7))
        refine zak _ _ rfl r1 rfl D hr7 hcl _ rfl rfl ?_
        refine ⟨?_, zau HQ2.out.bel hg7 jH (by have := HB2.out.size; omega)⟩
        rw [HP.out, HCg.out]; rfl
   ·have HP : Hid (znu (ls s) = none) := by
     show _ = _
     rw [HPD.out]
     cases G with
     | none => rfl
     | some g => cases H with
       | none => rfl
       | some h => simp only; rw [if_neg (fun hh => h8 ⟨g, h, rfl, rfl, hh⟩)]
    cases G with
    | none =>
      clear h8
      go_wp2_with (first
       | (refine zaz _ rfl _ _ rfl a1 (by exact rfl) _ (av (znt 8)) hA4 8 _ zae (zah _ rfl) ?_)
       | (refine za0 _ rfl rfl _ _ _ rfl r1 (by exact rfl) (av (znt 8)) (by exact rfl) _ _ hR4 (zah _ rfl) rfl (zac _) ?_; intro w5 hr5 hg5))
      refine zak _ _ rfl r1 rfl (znt 8) hr5 rfl _ rfl rfl ?_
      refine ⟨?_, zau HB4.out hg5 jH (by have := HB2.out.size; omega)⟩
      rw [HP.out]; rfl
    | some g =>
      cases H with
      | none =>
        clear h8
        go_wp2_with (first
         | (refine zaz _ rfl _ _ rfl a1 (by exact rfl) _ (av (znt 8)) hA4 8 _ zae (zah _ rfl) ?_)
         | (refine za0 _ rfl rfl _ _ _ rfl r1 (by exact rfl) (av (znt 8)) (by exact rfl) _ _ hR4 (zah _ rfl) rfl (zac _) ?_; intro w5 hr5 hg5))
        refine zak _ _ rfl r1 rfl (znt 8) hr5 rfl _ rfl rfl ?_
        refine ⟨?_, zau HB4.out hg5 jH (by have := HB2.out.size; omega)⟩
        rw [HP.out]; rfl
      | some h =>
        simp only [Option.getD_some, Option.isSome_some]
        obtain ⟨n, hn⟩ : ∃ n : Nat, n = g.length := ⟨_, rfl⟩
        obtain ⟨m, hm⟩ : ∃ m : Nat, m = h.length := ⟨_, rfl⟩
        have hgt : 7 < n + m := by
         rcases Nat.lt_or_ge 7 (n + m) with h1 | h1
         ·exact h1
         ·exact absurd ⟨g, h, rfl, rfl, by omega⟩ h8
        have hbn : n <= 1000000002 := by rw [hn]; exact HGL.out g rfl
        have hbm : m <= 1000000002 := by rw [hm]; exact HHL.out h rfl
        rw [<- hn, <- hm]
        simp only [Option.getD_some] at hnc hnc'
        rw [<- hn] at hnc
        rw [<- hm] at hnc'
        clear h8 hn hm HCG HCH HGL HHL
        have hdec : decide ((7 : Int) < (n : Int) + (m : Int)) = true := jT (by omega)
        go_wp2_with (first
         | (refine zaz _ rfl _ _ rfl a1 (by exact rfl) _ (av (znt 8)) hA4 8 _ zae (zah _ rfl) ?_)
         | (refine za0 _ rfl rfl _ _ _ rfl r1 (by exact rfl) (av (znt 8)) (by exact rfl) _ _ hR4 (zah _ rfl) rfl (zac _) ?_; intro w5 hr5 hg5))
        refine zak _ _ rfl r1 rfl (znt 8) hr5 rfl _ rfl rfl ?_
        refine ⟨?_, zau HB4.out hg5 jH (by have := HB2.out.size; omega)⟩
        rw [HP.out]; rfl
end

section
open Go.RowKit
set_option maxHeartbeats 16000000
def zdn : Value -> Nat
 | .string s => if s.size = 0 then 1 else 0
 | _ => 0
theorem zdo : ∀ r : Fin 16, (⟨#[48, 49, 50, 51, 52, 53, 54, 55, 56, 57, 97, 98, 99, 100, 101, 102]⟩ : ByteArray).extract r.val (r.val + 1) = bs [zda r.val] := by decide +kernel
def zdp (b n m : Nat) (L : List UInt8) : Prop := (L = [] /\ m = n) \/ (L ≠ [] /\ m = 0 /\ L = zde b n) \/ (L ≠ [] /\ 0 < m /\ zde b m ++ L = zde b n)
theorem zdp.next {b n m : Nat} {L : List UInt8} (hb : 2 <= b) (hn : n < 1099511627776) (hm : m < 1099511627776) (h : zdp b n m L) (hc : 0 < m \/ L = []) : zdp b n (m / b) (zda (m % b) :: L) := by
 have key : zde b m ++ L = zde b n := by
  rcases h with ⟨h1, h2⟩ | ⟨h1, h2, h3⟩ | ⟨h1, h2, h3⟩
  ·subst h1 h2; simp
  ·rcases hc with hc | hc
   ·omega
   ·exact absurd hc h1
  ·exact h3
 by_cases hs : m < b
 ·refine .inr (.inl ⟨by simp, Nat.div_eq_of_lt hs, ?_⟩)
  rw [<- key, zdg hs, Nat.mod_eq_of_lt hs]; rfl
 ·refine .inr (.inr ⟨by simp, Nat.div_pos (by omega) (by omega), ?_⟩)
  rw [<- key, zdh hb hm hs]; simp
theorem zdp.len {b n m : Nat} {L : List UInt8} (h : zdp b n m L) (hl : (zde b n).length <= 11) : L.length <= 11 := by
 rcases h with ⟨h1, h2⟩ | ⟨h1, h2, h3⟩ | ⟨h1, h2, h3⟩
 ·subst h1; simp
 ·rw [h3]; exact hl
 ·rw [<- h3] at hl; simp at hl; omega
theorem zdp.fin {b n : Nat} {L : List UInt8} (h : zdp b n 0 L) (hL : L ≠ []) : L = zde b n := by
 rcases h with ⟨h1, h2⟩ | ⟨h1, h2, h3⟩ | ⟨h1, h2, h3⟩
 ·exact absurd h1 hL
 ·exact h3
 ·omega
theorem zdq (L : List UInt8) : ((bs L).toList == ([] : List UInt8)) = decide (L = []) := by
 rw [zb3, zb0]
 cases L <;> rfl
theorem zdr (l m : List UInt8) : bs l ++ bs m = bs (l ++ m) := by
 apply zb2
 rw [zb6, zb0, zb0, zb0]
end

section
open Go.RowKit
set_option maxHeartbeats 16000000
theorem zku (v : Nat) (hv : v < 65536) : (zde 16 v).length <= 11 := by have := (zol v hv).2; unfold znv at this; omega
set_option maxRecDepth 20000 in
theorem zkv (n : Nat) (hn : n < 65536) (w : World) :
 Calls Tryz.prog 97 #[.int .u16 (n : Int)] w fun e w' => e = .returned (.string (bs (znv n))) /\ w = w' := by
 have hn40 : n < 1099511627776 := by omega
 have hlenn := zku n hn
 go_enter Tryz.func97, Tryz.ntmps97
 go_wp2
 go_loop [3, 4] (fun v i => ∃ (m : Nat) (L : List UInt8) (X : ByteArray), m < 65536 /\ i = .int .u16 m /\ v = .string X /\ Hid (X = bs L) /\ Hid (zdp 16 n m L)) (fun v i => 2 * (intOf i).toNat + zdn v)
 case atStart => exact ⟨n, [], _, hn, rfl, rfl, jL rfl, jL (.inl ⟨rfl, rfl⟩)⟩
 case round =>
  obtain ⟨m, L, X, hm, rfl, rfl, HX, HD⟩ := hrel
  by_cases h0 : 0 < m
  ·have hd : decide ((0 : Int) < (m : Int)) = true := jT (by omega)
   have HC : Hid (0 < m \/ L = []) := jL (.inl h0)
   have hm40 : m < 1099511627776 := by omega
   obtain ⟨q, hq⟩ : ∃ q, q = m / 16 := ⟨_, rfl⟩
   obtain ⟨r, hr⟩ : ∃ r, r = m % 16 := ⟨_, rfl⟩
   have hqi : (m : Int) / 16 = (q : Int) := by omega
   have hri : (m : Int) % 16 = (r : Int) := by omega
   have hr16 : r < 16 := by omega
   have hri2 : (r : Int) < 16 := by omega
   have hx := zdo ⟨r, hr16⟩
   simp only at hx
   have HNX : Hid (zdp 16 n q (zda r :: L)) := by rw [hq, hr]; exact jL (HD.out.next (by omega) hn40 hm40 HC.out)
   have hlen := HD.out.len hlenn
   have hsz : ¬ (9223372036854775807 < ((⟨#[48, 49, 50, 51, 52, 53, 54, 55, 56, 57, 97, 98, 99, 100, 101, 102]⟩ : ByteArray).extract r (r + 1)).size + X.size) := by rw [hx, HX.out, zb5, zb5]; simp; omega
   have HS : Hid ((⟨#[48, 49, 50, 51, 52, 53, 54, 55, 56, 57, 97, 98, 99, 100, 101, 102]⟩ : ByteArray).extract r (r + 1) ++ X = bs (zda r :: L)) := by show _ = _; rw [hx, HX.out]; exact zdr [zda r] L
   have HQ := jL hq
   clear hq hr hx hlen
   go_wp2
   go_round
   case rel => exact ⟨q, zda r :: L, _, by have := HQ.out; omega, rfl, rfl, jL HS.out, HNX⟩
   case measure =>
    have h1 := HQ.out
    have h2 : ((⟨#[48, 49, 50, 51, 52, 53, 54, 55, 56, 57, 97, 98, 99, 100, 101, 102]⟩ : ByteArray).extract r (r + 1) ++ X).size ≠ 0 := by rw [HS.out, zb5]; simp
    simp only [intOf, zdn, if_neg h2]
    omega
  ·have hd : decide ((0 : Int) < (m : Int)) = false := jF (by omega)
   have HM0 : Hid (m = 0) := jL (by omega)
   by_cases hL : L = []
   ·have he : (X.toList == ([] : List UInt8)) = true := by rw [HX.out, zdq, jT hL]
    have HC : Hid (0 < m \/ L = []) := jL (.inr hL)
    have HL0 := jL hL
    obtain rfl : m = 0 := HM0.out
    have hw1 : IntKind.u16.wrap 1 = 1 := by decide
    have hsz : ¬ (9223372036854775807 < ((⟨#[48, 49, 50, 51, 52, 53, 54, 55, 56, 57, 97, 98, 99, 100, 101, 102]⟩ : ByteArray).extract 0 1).size + X.size) := by rw [HX.out, HL0.out, zb5, ByteArray.size_extract]; simp; omega
    have HS : Hid ((⟨#[48, 49, 50, 51, 52, 53, 54, 55, 56, 57, 97, 98, 99, 100, 101, 102]⟩ : ByteArray).extract 0 1 ++ X = bs [zda 0]) := by show _ = _; rw [HX.out, HL0.out, zdo ⟨0, by omega⟩]; exact zdr [zda 0] []
    have HNX : Hid (zdp 16 n 0 [zda 0]) := by
     have h := HD.out.next (b := 16) (by omega) hn40 (by omega) HC.out
     rw [HL0.out, Nat.zero_mod, Nat.zero_div] at h
     exact jL h
    clear hL h0 HM0 hd
    go_wp2
    go_round
    case rel => exact ⟨0, [zda 0], _, by omega, rfl, rfl, jL HS.out, HNX⟩
    case measure =>
     have h2 : ((⟨#[48, 49, 50, 51, 52, 53, 54, 55, 56, 57, 97, 98, 99, 100, 101, 102]⟩ : ByteArray).extract 0 1 ++ X).size ≠ 0 := by rw [HS.out, zb5]; simp
     have h3 : X.size = 0 := by rw [HX.out, HL0.out]; rfl
     simp only [intOf, zdn, if_neg h2, h3, if_true]
     omega
   ·have he : (X.toList == ([] : List UInt8)) = false := by rw [HX.out, zdq, jF hL]
    have hfin : L = zde 16 n := by have h := HD.out; rw [HM0.out] at h; exact h.fin hL
    have HXL : Hid (X = bs (znv n)) := by show _ = _; rw [HX.out, hfin]; rfl
    clear h0 hL
    go_wp2
    go_ret
    exact ⟨zbz HXL.out, rfl⟩
theorem zkw (X : ByteArray) (l : List UInt8) (h : X = bs l) (q : Nat) (hq : q + 1 = l.length) (hX : q < X.size) : l.getLast? = some X[q] := by
 have e := zb8 X q hX
 have e2 : ls X = l := by rw [h, zb0]
 rw [List.getLast?_eq_getElem?, show l.length - 1 = q by omega, List.getElem?_eq_getElem (by omega)]
 congr 1
 have e3 : (ls X)[q]'(by rw [zb4]; exact hX) = l[q] := by simp only [e2]
 rw [<- e3]; exact e _
theorem zkx (X : ByteArray) (l a b : List UInt8) (h : X = bs l) : X ++ bs a ++ bs b = bs (l ++ (a ++ b)) := by
 rw [h, zdr, zdr, List.append_assoc]
set_option maxRecDepth 20000 in
theorem zky (a : List Nat) (ha : a.length = 8) (hg : G16 a) (w : World) :
 Calls Tryz.prog 71 #[.agg (av a)] w fun e w' => e = .returned (.string (bs (zn0 a))) /\ Below w.heap.size w w' := by
 have HG := jL hg
 have HA := jL ha
 go_enter Tryz.func71, Tryz.ntmps71
 go_wp2_with (refine zax _ rfl 1 rfl _ _ rfl _ (av a) (by exact rfl) (by exact rfl) ?_; intro W1 g1 hg1 hl1 hR1 hG1)
 have hb1 := zav (Below.refl w.heap.size w) hG1 jH
 have hcell : ∀ k, k < 8 -> W1.cell? ⟨g1, k, none⟩ = some (.int .u16 ((a.getD k 0 : Nat) : Int)) := fun k hk => zaj.cell (C := a) hR1 (by rw [ha]; exact hk)
 have hgr : ∀ k, k < 8 -> a.getD k 0 < 65536 := fun k hk => hg _ (by rw [List.getD_eq_getElem?_getD, List.getElem?_eq_getElem (by omega), Option.getD_some]; exact List.getElem_mem (by omega))
 have HCL := jL hcell
 have HGR := jL hgr
 clear hR1 hG1 hcell hgr hg ha hg1 hl1
 go_loop [3, 4, 5] (fun t m i => ∃ (k : Nat), k <= 8 /\ i = .int .i64 k /\ t = .int .i64 (zny a k).1 /\ m = .int .i64 ((zny a k).2 : Nat)) (fun _ _ i => 8 - (intOf i).toNat)
 case atStart => exact ⟨0, Nat.zero_le _, rfl, rfl, rfl⟩
 case round =>
  obtain ⟨k, hk, rfl, rfl, rfl⟩ := hrel
  have HS := jL (zn1 a k)
  have hbm : (zny a k).2 <= 8 := by
   rcases zn4 a k with e | ⟨i, m, _, e, _, h⟩ <;> rw [e]
   ·show 1 <= 8; omega
   ·show m <= 8
    have := zn2 (a.drop i)
    rw [List.length_drop, HA.out] at this
    omega
  by_cases hlt : k < 8
  ·obtain ⟨tv, htv⟩ : ∃ t : Int, t = (zny a k).1 := ⟨_, rfl⟩
   obtain ⟨mv, hmv⟩ : ∃ m : Nat, m = (zny a k).2 := ⟨_, rfl⟩
   rw [<- htv, <- hmv]
   rw [<- hmv] at hbm
   have HBE : Hid (zny a k = (tv, mv)) := by show _ = _; rw [htv, hmv]
   clear htv hmv
   go_wp2
   go_loop [6] (fun n => ∃ q : Nat, k + q <= 8 /\ n = .int .i64 q /\ Hid (q <= znw (a.drop k))) (fun n => 8 - (intOf n).toNat)
   case atStart => exact ⟨0, by omega, rfl, jL (Nat.zero_le _)⟩
   case round =>
    obtain ⟨q, hq, rfl, HZ⟩ := hrel
    obtain ⟨s, hs⟩ : ∃ s, s = k + q := ⟨_, rfl⟩
    have hsi : (k : Int) + (q : Int) = (s : Int) := by omega
    have HSQ := jL hs
    have hs8 : s <= 8 := by omega
    have hq8 : q <= 8 := by omega
    clear hs hq
    by_cases hs8' : s < 8
    ·have hc := HCL.out s hs8'
     have hgs := HGR.out s hs8'
     have hdg : (a.drop k).getD q 0 = a.getD s 0 := by
      rw [List.getD_eq_getElem?_getD, List.getElem?_drop, <- HSQ.out, List.getD_eq_getElem?_getD]
     obtain ⟨x, hx⟩ : ∃ x, x = a.getD s 0 := ⟨_, rfl⟩
     rw [<- hx] at hc hgs hdg
     have HDG := jL hdg
     clear hx hdg
     by_cases hx0 : x = 0
     ·have hq0 : ((x : Int) == 0) = true := by simp [hx0]
      have HZ2 : Hid (q + 1 <= znw (a.drop k)) := jL (zo3 _ q HZ.out (by rw [List.length_drop, HA.out]; have := HSQ.out; omega) (by rw [HDG.out, hx0]))
      clear hx0
      go_wp2
      go_round
      case rel => exact ⟨q + 1, by have := HSQ.out; omega, by go_num, HZ2⟩
      case measure => simp [intOf]; have := HSQ.out; omega
     ·have hq0 : ((x : Int) == 0) = false := by simp; omega
      have HZ2 : Hid (znw (a.drop k) = q) := jL (zo4 _ q HZ.out (.inr ⟨by rw [List.length_drop, HA.out]; have := HSQ.out; omega, by rw [HDG.out]; exact hx0⟩))
      clear hx0
      by_cases hgt : mv < q
      ·have hdm : decide ((mv : Int) < (q : Int)) = true := jT (by omega)
       have HB2 : Hid (zny a (k + 1) = ((k : Int), q)) := by
        show _ = _
        rw [HS.out]; unfold znx; rw [HBE.out, HZ2.out, if_pos hgt]
       go_wp2
       go_round
       case rel => exact ⟨k + 1, by omega, by go_num, by rw [HB2.out], by rw [HB2.out]⟩
       case measure => simp [intOf]; omega
      ·have hdm : decide ((mv : Int) < (q : Int)) = false := jF (by omega)
       have HB2 : Hid (zny a (k + 1) = (tv, mv)) := by
        show _ = _
        rw [HS.out]; unfold znx; rw [HBE.out, HZ2.out, if_neg hgt]
       go_wp2
       go_round
       case rel => exact ⟨k + 1, by omega, by go_num, by rw [HB2.out], by rw [HB2.out]⟩
       case measure => simp [intOf]; omega
    ·have hd8 : decide ((s : Int) < 8) = false := jF (by omega)
     have HZ2 : Hid (znw (a.drop k) = q) := jL (zo4 _ q HZ.out (.inl (by rw [List.length_drop, HA.out]; have := HSQ.out; omega)))
     by_cases hgt : mv < q
     ·have hdm : decide ((mv : Int) < (q : Int)) = true := jT (by omega)
      have HB2 : Hid (zny a (k + 1) = ((k : Int), q)) := by
       show _ = _
       rw [HS.out]; unfold znx; rw [HBE.out, HZ2.out, if_pos hgt]
      go_wp2
      go_round
      case rel => exact ⟨k + 1, by omega, by go_num, by rw [HB2.out], by rw [HB2.out]⟩
      case measure => simp [intOf]; omega
     ·have hdm : decide ((mv : Int) < (q : Int)) = false := jF (by omega)
      have HB2 : Hid (zny a (k + 1) = (tv, mv)) := by
       show _ = _
       rw [HS.out]; unfold znx; rw [HBE.out, HZ2.out, if_neg hgt]
      go_wp2
      go_round
      case rel => exact ⟨k + 1, by omega, by go_num, by rw [HB2.out], by rw [HB2.out]⟩
      case measure => simp [intOf]; omega
  ·obtain rfl : k = 8 := by omega
   obtain ⟨t, ht⟩ : ∃ t : Int, t = (zny a 8).1 := ⟨_, rfl⟩
   obtain ⟨m, hm⟩ : ∃ m : Nat, m = (zny a 8).2 := ⟨_, rfl⟩
   have HF : Hid (zn0 a = znz a t m 8) := by show _ = _; unfold zn0; rw [<- ht, <- hm]
   have HTM : Hid (1 <= m /\ (t = -1 \/ ∃ i : Nat, t = (i : Int) /\ i + m <= 8)) := by
    refine jL ?_
    rcases zn4 a 8 with e | ⟨i, m', hi, e, h2, h3⟩
    ·rw [hm, ht, e]; exact ⟨jH, .inl rfl⟩
    ·rw [hm, ht, e]
     refine ⟨by show 1 <= m'; omega, .inr ⟨i, rfl, ?_⟩⟩
     have := zn2 (a.drop i)
     rw [List.length_drop, HA.out] at this
     show i + m' <= 8
     omega
   rw [<- ht, <- hm]
   rw [<- hm] at hbm
   have ht0 : -1 <= t := by rcases HTM.out.2 with h | ⟨i, h, _⟩ <;> omega
   have ht8 : t <= 8 := by rcases HTM.out.2 with h | ⟨i, h, _⟩ <;> omega
   have hm1 : 1 <= m := HTM.out.1
   clear ht hm HS
   go_wp2
   go_loop [7, 8] (fun v i => ∃ (k : Nat) (X : ByteArray), k <= 8 /\ i = .int .i64 k /\ v = .string X /\ X.size <= 82 /\ Hid (X = bs (znz a t m k)) /\ Hid (t < 0 \/ (k : Int) <= t \/ t + (m : Int) <= (k : Int))) (fun _ i => 8 - (intOf i).toNat)
   case atStart => exact ⟨0, _, by omega, rfl, rfl, by decide, jL (by rw [zow a t m (by omega)]; rfl), jL (by omega)⟩
   case round =>
    obtain ⟨k, X, hk, rfl, rfl, hXs, HX, HK⟩ := hrel
    by_cases hlt : k < 8
    ·by_cases hkt : (k : Int) = t
     ·have hq : ((k : Int) == t) = true := by simp [hkt]
      obtain ⟨k2, hk2⟩ : ∃ k2 : Nat, k2 + 1 = k + m := ⟨k + m - 1, by omega⟩
      have hks : (k : Int) + ((m : Int) - 1) = (k2 : Int) := by omega
      have hkm : k + m <= 8 := by
       rcases HTM.out.2 with h | ⟨i, h, h'⟩ <;> omega
      have hadd : ¬ (9223372036854775807 < X.size + (⟨#[58, 58]⟩ : ByteArray).size) := by have : (⟨#[58, 58]⟩ : ByteArray).size = 2 := rfl; omega
      have HX2 : Hid (X ++ (⟨#[58, 58]⟩ : ByteArray) = bs (znz a t m (k + m))) := by
       show _ = _
       rw [<- hkt, zov a k m (by omega) (by rw [HA.out]; exact hkm), HX.out, <- hkt]
       exact zdr _ [58, 58]
      have HKM := jL hk2
      have HKT := jL hkt
      have hkb : k + m <= 8 := hkm
      have hk2b : k2 <= 8 := by omega
      have hmi : (m : Int) <= 8 := by omega
      clear hk2 hkt
      go_wp2
      go_round
      case rel => exact ⟨k2 + 1, _, by have := HKM.out; omega, by go_num, rfl, by rw [HX2.out, zb5]; exact zo2 a HG.out t m _ (by omega), jL (by rw [HKM.out]; exact HX2.out), jL (by have := HKM.out; have := HKT.out; omega)⟩
      case measure => simp [intOf]; have := HKM.out; omega
     ·have hq : ((k : Int) == t) = false := by simp [hkt]
      have hc := HCL.out k hlt
      have hgs := HGR.out k hlt
      obtain ⟨x, hx⟩ : ∃ x, x = a.getD k 0 := ⟨_, rfl⟩
      rw [<- hx] at hc hgs
      have c1 := zkv x hgs
      have hlx := (zol x hgs).2
      have HSTEP : Hid (znz a t m (k + 1) = znz a t m k ++ ((if k = 0 \/ (0 <= t /\ (k : Int) = t + (m : Int)) then [] else [58]) ++ znv x)) := by
       show _ = _
       rcases HK.out with h | h | h
       ·rw [hx, zot a t m k (by rw [HA.out]; exact hlt) (.inl h)]
        congr 2
        by_cases h0 : k = 0
        ·rw [if_pos h0, if_pos (.inl h0)]
        ·rw [if_neg h0, if_neg (by omega)]
       ·rw [hx, zot a t m k (by rw [HA.out]; exact hlt) (.inr (by omega))]
        congr 2
        by_cases h0 : k = 0
        ·rw [if_pos h0, if_pos (.inl h0)]
        ·rw [if_neg h0, if_neg (by omega)]
       ·rcases HTM.out.2 with h' | ⟨i, h', h''⟩
        ·rw [hx, zot a t m k (by rw [HA.out]; exact hlt) (.inl (by omega))]
         congr 2
         by_cases h0 : k = 0
         ·rw [if_pos h0, if_pos (.inl h0)]
         ·rw [if_neg h0, if_neg (by omega)]
        ·subst h'
         rw [hx, zou a i m k (by rw [HA.out]; exact hlt) (by omega) (by omega)]
         congr 2
         by_cases h0 : k = i + m
         ·rw [if_pos h0, if_pos (.inr (by omega))]
         ·rw [if_neg h0, if_neg (by omega)]
      have HKN : Hid (t < 0 \/ ((k + 1 : Nat) : Int) <= t \/ t + (m : Int) <= ((k + 1 : Nat) : Int)) := by
       refine jL ?_
       rcases HK.out with h | h | h <;> omega
      have HLN : Hid (∀ l, l = znv x -> l.length <= 4) := jL fun l h => by rw [h]; exact hlx
      have hhs : (bs (znv x)).size <= 4 := by rw [zb5]; exact hlx
      obtain ⟨H, hH⟩ : ∃ H, H = bs (znv x) := ⟨_, rfl⟩
      rw [<- hH] at c1 hhs
      have HH := jL hH
      clear hx hlx hH
      by_cases hcol : k = 0 \/ (0 <= t /\ (k : Int) = t + (m : Int))
      ·have HN : Hid (X ++ H = bs (znz a t m (k + 1))) := by
        show _ = _
        rw [HSTEP.out, if_pos hcol, List.nil_append, HX.out, HH.out]
        exact zdr _ _
       have hadd : ¬ (9223372036854775807 < X.size + H.size) := by omega
       by_cases hk0 : k = 0
       ·have hXe : (X.toList != ([] : List UInt8)) = false := by
         rw [bne, HX.out, hk0, zow a t m (by omega), zdq]; rfl
        have hXm : X.toList.isEmpty = true := by
         rw [HX.out, hk0, zow a t m (by omega), zb3, zb0]; rfl
        obtain rfl := hk0
        clear hcol
        go_wp2_with (go_at_call 97; refine (c1 _).mono ?_; rintro e w' ⟨rfl, rfl⟩)
        go_round
        case rel => exact ⟨0 + 1, _, by omega, by go_num, rfl, by rw [HN.out, zb5]; exact zo2 a HG.out t m _ (by omega), jL HN.out, HKN⟩
        case measure => simp [intOf]
       ·have HC2 : Hid (0 <= t /\ (k : Int) = t + (m : Int)) := jL (hcol.resolve_left hk0)
        have hlast : znz a t m k ≠ [] /\ (znz a t m k).getLast? = some 58 := by
         rcases HTM.out.2 with h' | ⟨i, h', h''⟩
         ·have := HC2.out; omega
         ·have hki : k = i + m := by have := HC2.out; omega
          rw [h', hki]
          exact zoz a i m (by omega) (by rw [HA.out]; exact h'')
        obtain ⟨hl1, hl2⟩ := hlast
        have hXe : (X.toList != ([] : List UInt8)) = true := by
         rw [bne, HX.out, zdq, jF hl1]; rfl
        have hXm : X.toList.isEmpty = false := by
         rw [HX.out, zb3, zb0]
         cases hc : znz a t m k with
         | nil => exact absurd hc hl1
         | cons c r => rfl
        have hpos : 0 < X.size := by rw [HX.out, zb5]; exact List.length_pos_iff.2 hl1
        obtain ⟨q, hq1⟩ : ∃ q, q + 1 = X.size := ⟨X.size - 1, by omega⟩
        have hqs : (X.size : Int) - 1 = (q : Int) := by omega
        have hqX : q < X.size := by omega
        have hqc : ((X[q].toNat : Int) != 58) = false := by
         have h := zkw X _ HX.out q (by rw [hq1, HX.out, zb5]) hqX
         rw [hl2] at h
         injection h with h
         rw [<- h]; rfl
        clear hcol hl1 hl2 hq1 hpos
        go_wp2_with (go_at_call 97; refine (c1 _).mono ?_; rintro e w' ⟨rfl, rfl⟩)
        go_round
        case rel => exact ⟨k + 1, _, by omega, by go_num, rfl, by rw [HN.out, zb5]; exact zo2 a HG.out t m _ (by omega), jL HN.out, HKN⟩
        case measure => simp [intOf]; omega
      ·have HN : Hid (X ++ (⟨#[58]⟩ : ByteArray) ++ H = bs (znz a t m (k + 1))) := by
        show _ = _
        rw [HSTEP.out, if_neg hcol, HH.out]
        exact zkx X _ [58] _ HX.out
       have hlast : znz a t m k ≠ [] /\ (znz a t m k).getLast? ≠ some 58 := by
        rcases HK.out with h | h | h
        ·exact zox a HG.out t m k (by rw [HA.out]; exact hk) (by omega) (.inl h)
        ·exact zox a HG.out t m k (by rw [HA.out]; exact hk) (by omega) (.inr h)
        ·rcases HTM.out.2 with h' | ⟨i, h', h''⟩
         ·exact zox a HG.out t m k (by rw [HA.out]; exact hk) (by omega) (.inl (by omega))
         ·rw [h'] at h hcol ⊢
          exact zo0 a HG.out i m k (by rw [HA.out]; exact hk) (by omega) (by omega)
       obtain ⟨hl1, hl2⟩ := hlast
       have hXe : (X.toList != ([] : List UInt8)) = true := by
        rw [bne, HX.out, zdq, jF hl1]; rfl
       have hXm : X.toList.isEmpty = false := by
        rw [HX.out, zb3, zb0]
        cases hc : znz a t m k with
        | nil => exact absurd hc hl1
        | cons c r => rfl
       have hpos : 0 < X.size := by rw [HX.out, zb5]; exact List.length_pos_iff.2 hl1
       obtain ⟨q, hq1⟩ : ∃ q, q + 1 = X.size := ⟨X.size - 1, by omega⟩
       have hqs : (X.size : Int) - 1 = (q : Int) := by omega
       have hqX : q < X.size := by omega
       have hqc : ((X[q].toNat : Int) != 58) = true := by
        have h := zkw X _ HX.out q (by rw [hq1, HX.out, zb5]) hqX
        rw [h] at hl2
        simp only [bne_iff_ne, ne_eq]
        intro e
        exact hl2 (by rw [UInt8.toNat_inj.1 (show X[q].toNat = (58 : UInt8).toNat by rw [show (58 : UInt8).toNat = 58 from rfl]; omega)])
       have hadd : ¬ (9223372036854775807 < X.size + (⟨#[58]⟩ : ByteArray).size) := by have : (⟨#[58]⟩ : ByteArray).size = 1 := rfl; omega
       have hadd2 : ¬ (9223372036854775807 < (X ++ (⟨#[58]⟩ : ByteArray)).size + H.size) := by rw [ByteArray.size_append]; have : (⟨#[58]⟩ : ByteArray).size = 1 := rfl; omega
       clear hcol hl1 hl2 hq1 hpos
       go_wp2_with (go_at_call 97; refine (c1 _).mono ?_; rintro e w' ⟨rfl, rfl⟩)
       go_round
       case rel => exact ⟨k + 1, _, by omega, by go_num, rfl, by rw [HN.out, zb5]; exact zo2 a HG.out t m _ (by omega), jL HN.out, HKN⟩
       case measure => simp [intOf]; omega
    ·obtain rfl : k = 8 := by omega
     go_wp2
     go_ret
     exact ⟨zbz (by rw [HX.out, HF.out]), hb1⟩
end

section
open Go.RowKit
set_option maxHeartbeats 16000000
def Yes (w : World) (e : Ending) (w' : World) : Prop := e = .returned (.bool true) /\ Below w.heap.size w w'
end

section
open Go.RowKit
set_option maxHeartbeats 16000000
def zw2 : String := (Rows.urlFunctionsMatchSpecRow.laid.tail.tail.head (List.cons_ne_nil _ _)).1
def Pow (w : World) : Prop := Lib.TabIs Tryz.prog w zw2 .u64 Lib.pow10Tab
theorem zw3 {P : Program} {w w' : World} {n : String} {cs : Array Value} (h : w.var? P n = some cs) (hb : Below w.heap.size w w') : w'.var? P n = some cs := by
 unfold World.var? at h ⊢
 cases hg : P.globalNamed n with
 | none => rw [hg] at h; exact h
 | some g =>
   rw [hg] at h
   simp only [Option.bind_some] at h ⊢
   by_cases hlt : g < w.heap.size
   ·rw [hb.block g hlt]
    exact h
   ·rw [Array.getElem?_eq_none (by omega)] at h
    cases h
theorem zw4 {w w' : World} (h : Pow w) (hb : Below w.heap.size w w') : Pow w' := zw3 h hb
end

section
open Go.RowKit
set_option maxHeartbeats 16000000
def zw5 (w : World) : Prop := Pow w /\ w.cell? ⟨7, 15, none⟩ = some (.int .u8 4)
theorem zw6 {w : World} {b j : Nat} {v : Value} (h : w.cell? ⟨b, j, none⟩ = some v) : b < w.heap.size := by
 by_cases hb : b < w.heap.size
 ·exact hb
 ·exfalso
  have : w.heap[b]? = none := Array.getElem?_eq_none (by omega)
  simp [World.cell?, this] at h
theorem zw7 {w w' : World} (h : zw5 w) (hb : Below w.heap.size w w') : zw5 w' :=
 ⟨zw4 h.1 hb, (hb.cell (zw6 h.2)).trans h.2⟩
end

end Go.Proofs.YtekaljeicfjkjaaGreatDoor
