/-
Contract of Parse of the reference of layer 11.
Digits laid in front of a string: no function of the program.
Contracts of hexText and Format of the reference of layer 11 (written by tools/gen-I64.py).
What every walk of a statement ends in. No program.
The powers of ten that Go's own library reads lie in the world; what is made beside them leaves them there.
The tables that Go's own library reads to append a number, to the base 10 or 16, lie in the world; what is made beside them leaves them there.
What is asked of package ipv6's functions, in plain words; equality of arrays.
Equality of hosts.
A range over a function whose iterator keeps state of its own in cells: the caller's law. No program.
-/
import Derived.Test.YtekaljeicfjkjaaGreatDoorJ08
import Derived.Test.YtekaljeicfjkjaaGreatDoorJ03
import Derived.Test.YtekaljeicfjkjaaGreatDoorJ04
import Derived.Test.YtekaljeicfjkjaaGreatDoorJ00
import Derived.Test.YtekaljeicfjkjaaGreatDoorRows
import Derived.Below
import Derived.Lib.LaidTab
import Derived.Lib.ItoaNum
import Derived.ChangeKeysEq
import Derived.Deep.Cut
import Derived.Laws.StructEq
import Derived.RangeFuncNested
import Derived.RangeFuncBound
import Derived.RangeFuncCalls
import Derived.RangeFuncLeaves
namespace Go.Proofs.YtekaljeicfjkjaaGreatDoor
section
open Go.RowKit
set_option maxHeartbeats 16000000
def zj7 (o : Option (List Nat)) : List Nat := o.getD (zm8 8)
theorem zj8 : (zm8 8).length = 8 := rfl
theorem zj9 : ∀ (l : List UInt8) (i k : Nat), zm7 l i = some k -> i <= k /\ k + 2 <= i + l.length
 | [], _, _, h => by cases h
 | [_], _, _, h => by cases h
 | a :: b :: r, i, k, h => by
   rw [zm7] at h
   split at h
   ·simp only [Option.some.injEq] at h; subst h; simp
   ·have := zj9 (b :: r) (i + 1) k h
    simp at this ⊢; omega
theorem zka {w : World} {base n : Nat} {v : Value} {g : List Nat} (h : w.ownsRow base 23 1 v n (uv g)) : ∃ A c, v = .slice A n c /\ n <= c /\ ∀ j, j < n -> ∃ gb, A = some ⟨gb, 0, none⟩ /\ base <= gb /\ gb < w.heap.size /\ w.cell? ⟨gb, j, none⟩ = some (.int .u16 ((g.getD j 0 : Nat) : Int)) := by
 have hx := h
 rcases h.2 with ⟨rfl, h0⟩ | ⟨gb, cap, cur, rfl, hb, hg, hnc, _⟩
 ·subst h0
  exact ⟨none, 0, rfl, jH, fun j hj => by omega⟩
 ·refine ⟨_, cap, rfl, hnc, fun j hj => ⟨gb, rfl, hb, ?_, ?_⟩⟩
  ·exact (Array.getElem?_eq_some_iff.1 hg).1
  ·obtain ⟨g', cap', hv, _, hlt, hc⟩ := zcr hx (by omega)
   injection hv with hv1 hv2 hv3
   injection hv1 with hv1
   injection hv1 with e1 _ _
   subst e1
   have hl : (uv g).length = n := by simpa using hx.1
   have := hc j (by omega)
   rw [this]
   rw [zjv] at hl
   simp [uv, List.getD_eq_getElem?_getD, List.getElem?_eq_getElem (show j < g.length by omega)]
structure PA (w W2 w3 wr : World) (a1 r1 : Nat) (C : List Nat) : Prop where
 ra : zaj wr a1 C
 rr : zaj wr r1 (zm8 8)
 len : C.length = 8
 old : ∀ gb, W2.heap.size <= gb -> gb < w3.heap.size -> wr.heap[gb]? = w3.heap[gb]?
 bel : Below w.heap.size w wr
theorem PA.cell {w W2 w3 wr : World} {a1 r1 : Nat} {C : List Nat} (h : PA w W2 w3 wr a1 r1 C) {gb j : Nat} {v : Value} (h1 : W2.heap.size <= gb) (h2 : gb < w3.heap.size) (hc : w3.cell? ⟨gb, j, none⟩ = some v) : wr.cell? ⟨gb, j, none⟩ = some v := by
 rw [<- hc]
 unfold World.cell?
 rw [h.old gb h1 h2]
theorem PA.set {w W2 w3 wr w' : World} {a1 r1 k x : Nat} {C : List Nat} (h : PA w W2 w3 wr a1 r1 C) (ha : a1 < W2.heap.size) (hne : r1 ≠ a1) (hw : w.heap.size <= a1)
 (hr : Row w' a1 24 ((av C).setIfInBounds k (.int .u16 (x : Int)))) (hg : wr.grownBy w' (some a1)) : PA w W2 w3 w' a1 r1 (C.set k x) := by
 refine ⟨?_, h.rr.grown hg hne, by simp [h.len], fun gb h1 h2 => ?_, zau h.bel hg jH hw⟩
 ·rw [zab] at hr; exact hr
 ·have hlt : gb < wr.heap.size := by
   have := h.old gb h1 h2
   rw [Array.getElem?_eq_getElem h2] at this
   exact (Array.getElem?_eq_some_iff.1 this).1
  rw [hg.block gb hlt (fun e => by injection e with e; omega)]
  exact h.old gb h1 h2
theorem zkb : ∀ (P : List (List UInt8)) (last : Bool) (g : List Nat), zm5 P last = some g -> g.length <= P.length + 1
 | [], _, g, h => by
   rw [zm5] at h
   simp only [Option.some.injEq] at h
   subst h; simp
 | [x], last, g, h => by
   rw [zj2] at h
   split at h
   ·simp only [Option.some.injEq] at h; subst h; simp
   ·split at h
    ·simp only [Option.some.injEq] at h; subst h; simp
    ·cases h
 | x :: y :: r, last, g, h => by
   rw [zm5] at h
   split at h
   ·cases h
   ·cases hr : zm5 (y :: r) last with
    | none => rw [hr] at h; cases h
    | some m =>
      rw [hr] at h
      simp only [Option.some.injEq] at h
      have := zkb (y :: r) last m hr
      subst h
      simp at this ⊢; omega
theorem zkc {l : List UInt8} {last : Bool} {g : List Nat} (h : zm6 l last = some g) : g.length <= l.length + 2 := by
 unfold zm6 at h
 split at h
 ·simp only [Option.some.injEq] at h; subst h; simp
 ·have := zkb _ _ _ h
  have := z2q 58 l
  omega
theorem PA.more {w W2 w3 w4 wr : World} {a1 r1 : Nat} {C : List Nat} (_h : PA w W2 w3 wr a1 r1 C) (_hb : Below w3.heap.size w3 w4) (_he : wr = w4) : True := trivial
set_option maxRecDepth 20000 in
theorem zkd (s : ByteArray) (w : World) (hs : s.size <= 1000000000) :
 Calls Tryz.prog 88 #[.string s] w fun e w' => e = .returned (.tuple #[.agg (av (zj7 (zm9 (ls s)))), .bool (zm9 (ls s)).isSome]) /\ Below w.heap.size w w' := by
 have hdc := fun W => zjq s W hs
 have HPD : Hid (zm9 (ls s) = match zm7 (ls s) 0 with
  | none => match zm6 (ls s) true with
    | some g => if g.length = 8 then some g else none
    | none => none
  | some k => match zm6 ((ls s).take k) false with
    | none => none
    | some g => match zm6 ((ls s).drop (k + 2)) true with
      | none => none
      | some h => if g.length + h.length <= 7 then some (g ++ (zm8 (8 - g.length - h.length) ++ h)) else none) := jL rfl
 unfold zjn at hdc
 go_enter Tryz.func88, Tryz.ntmps88
 go_wp2_with (first
  | (refine zay _ rfl 2 rfl _ rfl _ zai ?_; intro W1 r1 hr1 hl1 hR1 hG1)
  | (refine zay _ rfl 4 rfl _ rfl _ zai ?_; intro W2 a1 ha1 hl2 hA1 hG2))
 have hb1 := zav (Below.refl w.heap.size w) hG1 jH
 have hb2 := zav hb1 hG2 jH
 have hR2 : zaj W2 r1 (zm8 8) := hR1.grown0 hG2
 have hA2 : zaj W2 a1 (zm8 8) := hA1
 have hne : r1 ≠ a1 := by omega
 have haw : w.heap.size <= a1 := Nat.le_trans hb1.size ha1
 have hrl : r1 < W2.heap.size := hR2.lt
 have HB2 := jL hb2
 clear hR1 hG1 hA1 hG2 hb1 hb2 ha1 hl1
 refine (hdc _).mono ?_
 rintro r w' ⟨rfl, rfl⟩
 clear hdc
 cases hdb : zm7 (ls s) 0 with
 | none =>
   rw [hdb] at HPD
   simp only at HPD ⊢
   have c1 := zj6 s true W2 hs
   generalize zm6 (ls s) true = G at *
   clear hdb
   go_wp2_with fail
   refine c1.mono ?_
   rintro e w3 ⟨v, rfl, hown, hb3⟩
   obtain ⟨A, c, rfl, hnc, hcells⟩ := zka hown
   have hA3 := hA2.below hb3 hl2
   have hR3 := hR2.below hb3 hrl
   have HB3 := jL (HB2.out.trans (hb3.mono HB2.out.size))
   clear c1 hown
   by_cases h8 : ∃ g, G = some g /\ g.length = 8
   ·obtain ⟨g, rfl, hg8⟩ := h8
    have HP : Hid (zm9 (ls s) = some g) := by show _ = _; rw [HPD.out]; simp only; rw [if_pos hg8]
    have hPA : PA w W2 w3 w3 a1 r1 (zm8 8) := ⟨hA3, hR3, rfl, fun _ _ _ => rfl, HB3.out⟩
    simp only [Option.getD_some, Option.isSome_some] at hnc hcells ⊢
    rw [hg8] at hnc hcells ⊢
    have HG8 := jL hg8
    have HPA := jL hPA
    clear hPA hA3 hR3 hg8
    go_wp2_with fail
    go_loopw [8] (fun i wr => ∃ (k : Nat) (C : List Nat), k <= 8 /\ i = .int .i64 k /\ Hid (C = g.take k ++ zm8 (8 - k)) /\ Hid (PA w W2 w3 wr a1 r1 C)) (fun i _ => 8 - (intOf i).toNat)
    case atStart => exact ⟨0, zm8 8, Nat.zero_le _, rfl, jL (by simp), HPA⟩
    case round =>
     obtain ⟨k, C, hk, rfl, HC, HQ⟩ := hrel
     by_cases hlt : k < 8
     ·obtain ⟨gb, hAe, hg1, hg2, hgc⟩ := hcells k hlt
      subst hAe
      have hc := HQ.out.cell hg1 hg2 hgc
      have hrow := HQ.out.ra
      have hkC : k < (av C).size := by rw [zaa, HQ.out.len]; exact hlt
      have HSET : Hid (C.set k (g.getD k 0) = g.take (k + 1) ++ zm8 (8 - (k + 1))) := by
       show _ = _
       rw [HC.out, zal g k 8 (by rw [HG8.out]; exact hlt) hlt]
      generalize g.getD k 0 = x at *
      clear hgc
      go_wp2_with (refine za1 _ rfl rfl _ _ _ rfl a1 k (by exact rfl) _ (by exact rfl) (by exact rfl) _ (av C) hrow hkC zju ?_; intro w4 hr4 hg4)
      go_roundw
      case rel => exact ⟨k + 1, C.set k x, by omega, by go_num, HSET, jL (HQ.out.set hl2 hne haw hr4 hg4)⟩
      case measure => simp [intOf]; omega
     ·obtain rfl : k = 8 := by omega
      have HCg : Hid (C = g) := by show _ = _; rw [HC.out, List.take_of_length_le (by rw [HG8.out]; exact jH)]; simp [zm8]
      have hrow := HQ.out.ra
      have hrr := HQ.out.rr
      have hcl := HQ.out.len
      go_wp2_with (first
       | (refine zaz _ rfl _ _ rfl a1 (by exact rfl) _ (av C) hrow 8 _ zae (zah C hcl) ?_)
       | (refine za0 _ rfl rfl _ _ _ rfl r1 (by exact rfl) (av C) (by exact rfl) _ _ hrr (zah C hcl) (by rw [zaa, zaa, hcl]; rfl) (zac C) ?_; intro w5 hr5 hg5))
      refine zak _ _ rfl r1 rfl C hr5 hcl _ rfl rfl ?_
      refine ⟨?_, zau HQ.out.bel hg5 jH (by have := HB2.out.size; omega)⟩
      rw [HP.out, HCg.out]; rfl
   ·have HP : Hid (zm9 (ls s) = none) := by
     show _ = _
     rw [HPD.out]
     cases G with
     | none => rfl
     | some g => simp only; rw [if_neg (fun h => h8 ⟨g, rfl, h⟩)]
    have hz := zj8
    cases G with
    | none =>
      clear h8
      go_wp2_with (first
       | (refine zaz _ rfl _ _ rfl a1 (by exact rfl) _ (av (zm8 8)) hA3 8 _ zae (zah _ rfl) ?_)
       | (refine za0 _ rfl rfl _ _ _ rfl r1 (by exact rfl) (av (zm8 8)) (by exact rfl) _ _ hR3 (zah _ rfl) rfl (zac _) ?_; intro w5 hr5 hg5))
      refine zak _ _ rfl r1 rfl (zm8 8) hr5 rfl _ rfl rfl ?_
      refine ⟨?_, zau HB3.out hg5 jH (by have := HB2.out.size; omega)⟩
      rw [HP.out]; rfl
    | some g =>
      have hg8 : ((g.length : Int) != 8) = true := by simp; intro h; exact h8 ⟨g, rfl, by omega⟩
      simp only [Option.getD_some, Option.isSome_some]
      obtain ⟨gl, hgl⟩ : ∃ n : Nat, n = g.length := ⟨_, rfl⟩
      rw [<- hgl] at hg8 ⊢
      clear h8 hcells hnc hgl
      go_wp2_with (first
       | (refine zaz _ rfl _ _ rfl a1 (by exact rfl) _ (av (zm8 8)) hA3 8 _ zae (zah _ rfl) ?_)
       | (refine za0 _ rfl rfl _ _ _ rfl r1 (by exact rfl) (av (zm8 8)) (by exact rfl) _ _ hR3 (zah _ rfl) rfl (zac _) ?_; intro w5 hr5 hg5))
      refine zak _ _ rfl r1 rfl (zm8 8) hr5 rfl _ rfl rfl ?_
      refine ⟨?_, zau HB3.out hg5 jH (by have := HB2.out.size; omega)⟩
      rw [HP.out]; rfl
 | some i =>
   have hbd := zj9 (ls s) 0 i hdb
   rw [zb4] at hbd
   rw [hdb] at HPD
   simp only at HPD ⊢
   have hi2 : i + 2 <= s.size := by omega
   have hil : (i : Int) <= (s.size : Int) := by omega
   have hineg : ¬ (i : Int) < 0 := by omega
   obtain ⟨j, hj⟩ : ∃ j, j = i + 2 := ⟨_, rfl⟩
   have hji : (i : Int) + 2 = (j : Int) := by omega
   have hjs : j <= s.size := by omega
   have c1 := fun W => zj6 (s.extract 0 i) false W (by rw [ByteArray.size_extract]; omega)
   have c2 := fun W => zj6 (s.extract j s.size) true W (by rw [ByteArray.size_extract]; omega)
   have l1 : ls (s.extract 0 i) = (ls s).take i := by rw [zbw, zb0]; unfold sub; simp
   have l2 : ls (s.extract j s.size) = (ls s).drop (i + 2) := by
    rw [zbw, zb0, hj]; unfold sub
    exact List.take_of_length_le (by rw [List.length_drop, zb4]; omega)
   rw [l1] at c1
   rw [l2] at c2
   have HGL : Hid (∀ g, zm6 ((ls s).take i) false = some g -> g.length <= 1000000002) := jL fun g hg => by have := zkc hg; rw [List.length_take, zb4] at this; omega
   have HHL : Hid (∀ g, zm6 ((ls s).drop (i + 2)) true = some g -> g.length <= 1000000002) := jL fun g hg => by have := zkc hg; rw [List.length_drop, zb4] at this; omega
   generalize zm6 ((ls s).take i) false = G at *
   generalize zm6 ((ls s).drop (i + 2)) true = H at *
   clear hdb hbd l1 l2 hj
   go_wp2_with fail
   refine (c1 _).mono ?_
   rintro e w3 ⟨v, rfl, hown, hb3⟩
   obtain ⟨A, c, rfl, hnc, hcells⟩ := zka hown
   have hA3 := hA2.below hb3 hl2
   have hR3 := hR2.below hb3 hrl
   have hs23 := hb3.size
   clear c1 hown
   go_wp2_with fail
   refine (c2 _).mono ?_
   rintro e w4 ⟨v, rfl, hown, hb4⟩
   obtain ⟨A', c', rfl, hnc', hcells'⟩ := zka hown
   have hA4 := hA3.below hb4 (Nat.lt_of_lt_of_le hl2 hs23)
   have hR4 := hR3.below hb4 (Nat.lt_of_lt_of_le hrl hs23)
   have hs34 := hb4.size
   have HCG : Hid (∀ j, j < (G.getD []).length -> ∃ gb, A = some ⟨gb, 0, none⟩ /\ W2.heap.size <= gb /\ gb < w4.heap.size /\ w4.cell? ⟨gb, j, none⟩ = some (.int .u16 (((G.getD []).getD j 0 : Nat) : Int))) := by
    refine jL fun j hj => ?_
    obtain ⟨gb, e1, e2, e3, e4⟩ := hcells j hj
    exact ⟨gb, e1, e2, by omega, (hb4.cell (p := ⟨gb, j, none⟩) e3).trans e4⟩
   have HCH : Hid (∀ j, j < (H.getD []).length -> ∃ gb, A' = some ⟨gb, 0, none⟩ /\ W2.heap.size <= gb /\ gb < w4.heap.size /\ w4.cell? ⟨gb, j, none⟩ = some (.int .u16 (((H.getD []).getD j 0 : Nat) : Int))) := by
    refine jL fun j hj => ?_
    obtain ⟨gb, e1, e2, e3, e4⟩ := hcells' j hj
    exact ⟨gb, e1, by omega, e3, e4⟩
   have HB4 := jL (HB2.out.trans ((hb3.trans (hb4.mono hb3.size)).mono HB2.out.size))
   clear c2 hown hcells hcells' hA2 hR2 hA3 hR3 hb3 hb4
   by_cases h8 : ∃ g h, G = some g /\ H = some h /\ g.length + h.length <= 7
   ·obtain ⟨g, h, rfl, rfl, hgh⟩ := h8
    have HP : Hid (zm9 (ls s) = some (g ++ (zm8 (8 - g.length - h.length) ++ h))) := by show _ = _; rw [HPD.out]; simp only; rw [if_pos hgh]
    have hPA : PA w W2 w4 w4 a1 r1 (zm8 8) := ⟨hA4, hR4, rfl, fun _ _ _ => rfl, HB4.out⟩
    simp only [Option.getD_some, Option.isSome_some] at hnc hnc' HCG HCH ⊢
    obtain ⟨n, hn⟩ : ∃ n : Nat, n = g.length := ⟨_, rfl⟩
    obtain ⟨m, hm⟩ : ∃ m : Nat, m = h.length := ⟨_, rfl⟩
    rw [<- hn] at hnc HCG ⊢
    rw [<- hm] at hnc' HCH ⊢
    have hnm : n + m <= 7 := by omega
    have hdec : decide ((7 : Int) < (n : Int) + (m : Int)) = false := jF (by omega)
    have HN := jL hn
    have HM := jL hm
    have HPA := jL hPA
    clear hPA hA4 hR4 hgh hn hm
    go_wp2_with fail
    go_loopw [13] (fun i wr => ∃ (k : Nat) (C : List Nat), k <= n /\ i = .int .i64 k /\ Hid (C = g.take k ++ zm8 (8 - k)) /\ Hid (PA w W2 w4 wr a1 r1 C)) (fun i _ => n - (intOf i).toNat)
    case atStart => exact ⟨0, zm8 8, Nat.zero_le _, rfl, jL (by simp), HPA⟩
    case round =>
     obtain ⟨k, C, hk, rfl, HC, HQ⟩ := hrel
     by_cases hlt : k < n
     ·obtain ⟨gb, hAe, hg1, hg2, hgc⟩ := HCG.out k hlt
      subst hAe
      have hc := HQ.out.cell hg1 hg2 hgc
      have hrow := HQ.out.ra
      have hk8 : k < 8 := by omega
      have hkC : k < (av C).size := by rw [zaa, HQ.out.len]; exact hk8
      have HSET : Hid (C.set k (g.getD k 0) = g.take (k + 1) ++ zm8 (8 - (k + 1))) := by
       show _ = _
       rw [HC.out, zal g k 8 (by rw [<- HN.out]; exact hlt) hk8]
      generalize g.getD k 0 = x at *
      clear hgc
      go_wp2_with (refine za1 _ rfl rfl _ _ _ rfl a1 k (by exact rfl) _ (by exact rfl) (by exact rfl) _ (av C) hrow hkC zju ?_; intro w5 hr5 hg5)
      go_roundw
      case rel => exact ⟨k + 1, C.set k x, by omega, by go_num, HSET, jL (HQ.out.set hl2 hne haw hr5 hg5)⟩
      case measure => simp [intOf]; omega
     ·obtain rfl : k = n := by omega
      have HC0 : Hid (C = g ++ zm8 (8 - k)) := by show _ = _; rw [HC.out, List.take_of_length_le (by rw [<- HN.out]; exact jH)]
      clear HC
      go_wp2_with fail
      go_loopw [14] (fun i wr => ∃ (q : Nat) (C : List Nat), q <= m /\ i = .int .i64 q /\ Hid (C = (g ++ zm8 (8 - k - m)) ++ (h.take q ++ zm8 (m - q))) /\ Hid (PA w W2 w4 wr a1 r1 C)) (fun i _ => m - (intOf i).toNat)
      case atStart =>
       refine ⟨0, C, Nat.zero_le _, rfl, jL ?_, HQ⟩
       rw [HC0.out, List.append_assoc]
       congr 1
       simp only [List.take_zero, List.nil_append, zm8, List.replicate_append_replicate]
       congr 1
       omega
      case round =>
       obtain ⟨q, D, hq, rfl, HD, HQ2⟩ := hrel
       by_cases hqlt : q < m
       ·obtain ⟨gb, hAe, hg1, hg2, hgc⟩ := HCH.out q hqlt
        subst hAe
        have hc := HQ2.out.cell hg1 hg2 hgc
        have hrow := HQ2.out.ra
        obtain ⟨t, ht⟩ : ∃ t, t = 8 - m + q := ⟨_, rfl⟩
        have ht1 : (8 : Int) - (m : Int) + (q : Int) = (t : Int) := by omega
        have ht8 : t < 8 := by omega
        have hm8 : m <= 8 := by omega
        have hkC : t < (av D).size := by rw [zaa, HQ2.out.len]; exact ht8
        have HSET : Hid (D.set t (h.getD q 0) = (g ++ zm8 (8 - k - m)) ++ (h.take (q + 1) ++ zm8 (m - (q + 1)))) := by
         show _ = _
         have hpl : (g ++ zm8 (8 - k - m)).length + q = t := by simp [zm8]; have := HN.out; omega
         rw [HD.out, <- hpl, zam _ h q m (by rw [<- HM.out]; exact hqlt) hqlt]
        generalize h.getD q 0 = x at *
        clear hgc ht
        go_wp2_with (refine za1 _ rfl rfl _ _ _ rfl a1 t (by exact rfl) _ (by exact rfl) (by exact rfl) _ (av D) hrow hkC zju ?_; intro w6 hr6 hg6)
        go_roundw
        case rel => exact ⟨q + 1, D.set t x, by omega, by go_num, HSET, jL (HQ2.out.set hl2 hne haw hr6 hg6)⟩
        case measure => simp [intOf]; omega
       ·obtain rfl : q = m := by omega
        have HCg : Hid (D = g ++ (zm8 (8 - g.length - h.length) ++ h)) := by
         show _ = _
         rw [HD.out, List.take_of_length_le (by rw [<- HM.out]; exact jH), Nat.sub_self, HN.out, HM.out]
         simp [zm8]
        have hrow := HQ2.out.ra
        have hrr := HQ2.out.rr
        have hcl := HQ2.out.len
        go_wp2_with (first
         | (refine zaz _ rfl _ _ rfl a1 (by exact rfl) _ (av D) hrow 8 _ zae (zah D hcl) ?_)
         | (refine za0 _ rfl rfl _ _ _ rfl r1 (by exact rfl) (av D) (by exact rfl) _ _ hrr (zah D hcl) (by rw [zaa, zaa, hcl]; rfl) (zac D) ?_; intro w7 hr7 hg7))
        refine zak _ _ rfl r1 rfl D hr7 hcl _ rfl rfl ?_
        refine ⟨?_, zau HQ2.out.bel hg7 jH (by have := HB2.out.size; omega)⟩
        rw [HP.out, HCg.out]; rfl
   ·have HP : Hid (zm9 (ls s) = none) := by
     show _ = _
     rw [HPD.out]
     cases G with
     | none => rfl
     | some g => cases H with
       | none => rfl
       | some h => simp only; rw [if_neg (fun hh => h8 ⟨g, h, rfl, rfl, hh⟩)]
    cases G with
    | none =>
      clear h8
      go_wp2_with (first
       | (refine zaz _ rfl _ _ rfl a1 (by exact rfl) _ (av (zm8 8)) hA4 8 _ zae (zah _ rfl) ?_)
       | (refine za0 _ rfl rfl _ _ _ rfl r1 (by exact rfl) (av (zm8 8)) (by exact rfl) _ _ hR4 (zah _ rfl) rfl (zac _) ?_; intro w5 hr5 hg5))
      refine zak _ _ rfl r1 rfl (zm8 8) hr5 rfl _ rfl rfl ?_
      refine ⟨?_, zau HB4.out hg5 jH (by have := HB2.out.size; omega)⟩
      rw [HP.out]; rfl
    | some g =>
      cases H with
      | none =>
        clear h8
        go_wp2_with (first
         | (refine zaz _ rfl _ _ rfl a1 (by exact rfl) _ (av (zm8 8)) hA4 8 _ zae (zah _ rfl) ?_)
         | (refine za0 _ rfl rfl _ _ _ rfl r1 (by exact rfl) (av (zm8 8)) (by exact rfl) _ _ hR4 (zah _ rfl) rfl (zac _) ?_; intro w5 hr5 hg5))
        refine zak _ _ rfl r1 rfl (zm8 8) hr5 rfl _ rfl rfl ?_
        refine ⟨?_, zau HB4.out hg5 jH (by have := HB2.out.size; omega)⟩
        rw [HP.out]; rfl
      | some h =>
        simp only [Option.getD_some, Option.isSome_some]
        obtain ⟨n, hn⟩ : ∃ n : Nat, n = g.length := ⟨_, rfl⟩
        obtain ⟨m, hm⟩ : ∃ m : Nat, m = h.length := ⟨_, rfl⟩
        have hgt : 7 < n + m := by
         rcases Nat.lt_or_ge 7 (n + m) with h1 | h1
         ·exact h1
         ·exact absurd ⟨g, h, rfl, rfl, by omega⟩ h8
        have hbn : n <= 1000000002 := by rw [hn]; exact HGL.out g rfl
        have hbm : m <= 1000000002 := by rw [hm]; exact HHL.out h rfl
        rw [<- hn, <- hm]
        simp only [Option.getD_some] at hnc hnc'
        rw [<- hn] at hnc
        rw [<- hm] at hnc'
        clear h8 hn hm HCG HCH HGL HHL
        have hdec : decide ((7 : Int) < (n : Int) + (m : Int)) = true := jT (by omega)
        go_wp2_with (first
         | (refine zaz _ rfl _ _ rfl a1 (by exact rfl) _ (av (zm8 8)) hA4 8 _ zae (zah _ rfl) ?_)
         | (refine za0 _ rfl rfl _ _ _ rfl r1 (by exact rfl) (av (zm8 8)) (by exact rfl) _ _ hR4 (zah _ rfl) rfl (zac _) ?_; intro w5 hr5 hg5))
        refine zak _ _ rfl r1 rfl (zm8 8) hr5 rfl _ rfl rfl ?_
        refine ⟨?_, zau HB4.out hg5 jH (by have := HB2.out.size; omega)⟩
        rw [HP.out]; rfl
end

section
open Go.RowKit
set_option maxHeartbeats 16000000
def zdn (b n m : Nat) (L : List UInt8) : Prop := (L = [] /\ m = n) \/ (L ≠ [] /\ m = 0 /\ L = zde b n) \/ (L ≠ [] /\ 0 < m /\ zde b m ++ L = zde b n)
theorem zdn.next {b n m : Nat} {L : List UInt8} (hb : 2 <= b) (hn : n < 1099511627776) (hm : m < 1099511627776) (h : zdn b n m L) (hc : 0 < m \/ L = []) : zdn b n (m / b) (zda (m % b) :: L) := by
 have key : zde b m ++ L = zde b n := by
  rcases h with ⟨h1, h2⟩ | ⟨h1, h2, h3⟩ | ⟨h1, h2, h3⟩
  ·subst h1 h2; simp
  ·rcases hc with hc | hc
   ·omega
   ·exact absurd hc h1
  ·exact h3
 by_cases hs : m < b
 ·refine .inr (.inl ⟨by simp, Nat.div_eq_of_lt hs, ?_⟩)
  rw [<- key, zdg hs, Nat.mod_eq_of_lt hs]; rfl
 ·refine .inr (.inr ⟨by simp, Nat.div_pos (by omega) (by omega), ?_⟩)
  rw [<- key, zdh hb hm hs]; simp
theorem zdn.len {b n m : Nat} {L : List UInt8} (h : zdn b n m L) (hl : (zde b n).length <= 11) : L.length <= 11 := by
 rcases h with ⟨h1, h2⟩ | ⟨h1, h2, h3⟩ | ⟨h1, h2, h3⟩
 ·subst h1; simp
 ·rw [h3]; exact hl
 ·rw [<- h3] at hl; simp at hl; omega
theorem zdn.fin {b n : Nat} {L : List UInt8} (h : zdn b n 0 L) (hL : L ≠ []) : L = zde b n := by
 rcases h with ⟨h1, h2⟩ | ⟨h1, h2, h3⟩ | ⟨h1, h2, h3⟩
 ·exact absurd h1 hL
 ·exact h3
 ·omega
end

section
open Go.RowKit
set_option maxHeartbeats 16000000
end

section
open Go.RowKit
set_option maxHeartbeats 16000000
def Yes (w : World) (e : Ending) (w' : World) : Prop := e = .returned (.bool true) /\ Below w.heap.size w w'
end

section
open Go.RowKit
set_option maxHeartbeats 16000000
def zwd : String := (Rows.urlFunctionsMatchSpecRow.laid.tail.tail.head (List.cons_ne_nil _ _)).1
def Pow (w : World) : Prop := Lib.TabIs Tryz.prog w zwd .u64 Lib.pow10Tab
theorem zwe {P : Program} {w w' : World} {n : String} {cs : Array Value} (h : w.var? P n = some cs) (hb : Below w.heap.size w w') : w'.var? P n = some cs := by
 unfold World.var? at h ⊢
 cases hg : P.globalNamed n with
 | none => rw [hg] at h; exact h
 | some g =>
   rw [hg] at h
   simp only [Option.bind_some] at h ⊢
   by_cases hlt : g < w.heap.size
   ·rw [hb.block g hlt]
    exact h
   ·rw [Array.getElem?_eq_none (by omega)] at h
    cases h
theorem zwf {w w' : World} (h : Pow w) (hb : Below w.heap.size w w') : Pow w' := zwe h hb
end

section
open Go.RowKit
set_option maxHeartbeats 16000000
def zwg (w : World) : Prop := Pow w /\ w.cell? ⟨7, 15, none⟩ = some (.int .u8 4)
theorem zwh {w : World} {b j : Nat} {v : Value} (h : w.cell? ⟨b, j, none⟩ = some v) : b < w.heap.size := by
 by_cases hb : b < w.heap.size
 ·exact hb
 ·exfalso
  have : w.heap[b]? = none := Array.getElem?_eq_none (by omega)
  simp [World.cell?, this] at h
theorem zwi {w w' : World} (h : zwg w) (hb : Below w.heap.size w w') : zwg w' :=
 ⟨zwf h.1 hb, (hb.cell (zwh h.2)).trans h.2⟩
end

section
open Go.RowKit
set_option maxHeartbeats 16000000
def zke (F : FuncId) : Prop := ∀ (s : ByteArray) (w : World), s.size <= 1000000000 -> zwg w -> Calls Tryz.prog F #[.string s] w fun e w' => e = .returned (.tuple #[.agg (av (zj7 (zm9 (ls s)))), .bool (zm9 (ls s)).isSome]) /\ Below w.heap.size w w'
def zkf (F : FuncId) : Prop := ∀ (a : List Nat), a.length = 8 -> G16 a -> ∀ w : World, zwg w -> Calls Tryz.prog F #[.agg (av a)] w fun e w' => e = .returned (.string (bs (znf a))) /\ Below w.heap.size w w'
theorem zkg (W : World) (C D : List Nat) : ∀ is : List Nat, (∀ i ∈ is, i < C.length /\ i < D.length) -> (Op.eqItems 9999 23 1 (av C) (av D) is).run Tryz.prog W = .ok (is.all fun i => C.getD i 0 == D.getD i 0) W
 | [], _ => by simp [Op.eqItems]
 | i :: r, h => by
   have hi := h i (by simp)
   have ih := zkg W C D r (fun j hj => h j (by simp [hj]))
   have e1 := zad C i hi.1
   have e2 := zad D i hi.2
   have hp : ∀ E : List Nat, i < E.length -> (part 23 (av E) (i * 1)).run Tryz.prog W = .ok (.int .u16 ((E.getD i 0 : Nat) : Int)) W := by
    intro E hE
    have e := zad E i hE
    obtain ⟨q, hq, _⟩ : ∃ q, Tryz.prog.info? 23 = some q /\ q.size = 1 := by
     cases hq : Tryz.prog.info? 23 with
     | none => have := zju; rw [hq] at this; cases this
     | some q => have := zju; rw [hq] at this; exact ⟨q, rfl, by simpa using this⟩
    rename_i hs
    simp [part, run_underlying zjs, isAgg, sizeOf, typeInfo, e, Result.andThen]
   have heq : (Op.equalIn 9999 23 (.int .u16 ((C.getD i 0 : Nat) : Int)) (.int .u16 ((D.getD i 0 : Nat) : Int))).run Tryz.prog W = .ok (((C.getD i 0 : Nat) : Int) == ((D.getD i 0 : Nat) : Int)) W :=
    run_equalIn_int W 9998 23 .u16 .u16 _ _ zjs
   have hb : (((C.getD i 0 : Nat) : Int) == ((D.getD i 0 : Nat) : Int)) = (C.getD i 0 == D.getD i 0) := by
    apply Bool.eq_iff_iff.2
    simp only [beq_iff_eq]
    omega
   simp only [Op.eqItems, Sem.run_bind, hp C hi.1, hp D hi.2, Result.andThen_ok, heq, hb, List.all_cons]
   cases hc : (C.getD i 0 == D.getD i 0) with
   | true => simpa using ih
   | false => simp
theorem zkh : Tryz.prog.cellsOf 23 = 1 := by kernel_rfl
theorem zki (C D : List Nat) (hC : C.length = 8) (hD : D.length = 8) : ∀ W, (binOp .eql 24 (.agg (av C)) (.agg (av D))).run Tryz.prog W = .ok (.bool (decide (C = D))) W := by
 intro W
 obtain ⟨q, hq⟩ : ∃ q, Tryz.prog.info? 23 = some q := by
  cases hq : Tryz.prog.info? 23 with
  | none => have := zju; rw [hq] at this; cases this
  | some q => exact ⟨q, rfl⟩
 have h1 := run_equalIn_array (w := W) 9999 (av C) (av D) zae hq
 rw [zkh, zkg W C D (List.range 8) (fun i hi => by have := List.mem_range.1 hi; omega)] at h1
 have hall : ((List.range 8).all fun i => C.getD i 0 == D.getD i 0) = decide (C = D) := by
  apply Bool.eq_iff_iff.2
  rw [List.all_eq_true, decide_eq_true_iff]
  constructor
  ·intro h
   apply List.ext_getElem (by omega)
   intro i h1 h2
   have := h i (List.mem_range.2 (by omega))
   simpa [List.getD_eq_getElem?_getD, List.getElem?_eq_getElem h1, List.getElem?_eq_getElem h2] using this
  ·intro h i _
   rw [h]; simp
 rw [hall] at h1
 rw [run_eql_struct, h1]
 rfl
end

section
open Go.RowKit
set_option maxHeartbeats 16000000
theorem zft (W : World) (C D : List Nat) : ∀ is : List Nat, (∀ i ∈ is, i < C.length /\ i < D.length) -> (Op.eqItems 9998 23 1 (av C) (av D) is).run Tryz.prog W = .ok (is.all fun i => C.getD i 0 == D.getD i 0) W
 | [], _ => by simp [Op.eqItems]
 | i :: r, h => by
   have hi := h i (by simp)
   have ih := zft W C D r (fun j hj => h j (by simp [hj]))
   have e1 := zad C i hi.1
   have e2 := zad D i hi.2
   have hp : ∀ E : List Nat, i < E.length -> (part 23 (av E) (i * 1)).run Tryz.prog W = .ok (.int .u16 ((E.getD i 0 : Nat) : Int)) W := by
    intro E hE
    have e := zad E i hE
    obtain ⟨q, hq, _⟩ : ∃ q, Tryz.prog.info? 23 = some q /\ q.size = 1 := by
     cases hq : Tryz.prog.info? 23 with
     | none => have := zju; rw [hq] at this; cases this
     | some q => have := zju; rw [hq] at this; exact ⟨q, rfl, by simpa using this⟩
    rename_i hs
    simp [part, run_underlying zjs, isAgg, sizeOf, typeInfo, e, Result.andThen]
   have heq : (Op.equalIn 9998 23 (.int .u16 ((C.getD i 0 : Nat) : Int)) (.int .u16 ((D.getD i 0 : Nat) : Int))).run Tryz.prog W = .ok (((C.getD i 0 : Nat) : Int) == ((D.getD i 0 : Nat) : Int)) W :=
    run_equalIn_int W 9997 23 .u16 .u16 _ _ zjs
   have hb : (((C.getD i 0 : Nat) : Int) == ((D.getD i 0 : Nat) : Int)) = (C.getD i 0 == D.getD i 0) := by
    apply Bool.eq_iff_iff.2
    simp only [beq_iff_eq]
    omega
   simp only [Op.eqItems, Sem.run_bind, hp C hi.1, hp D hi.2, Result.andThen_ok, heq, hb, List.all_cons]
   cases hc : (C.getD i 0 == D.getD i 0) with
   | true => simpa using ih
   | false => simp
theorem zfu : ∀ (g : List Nat), g.length = 8 -> ∃ a b c d e f i j, g = [a, b, c, d, e, f, i, j]
 | [a, b, c, d, e, f, i, j], _ => ⟨a, b, c, d, e, f, i, j, rfl⟩
theorem zfv (C D : List Nat) (hC : C.length = 8) (hD : D.length = 8) (W : World) : (Op.equalIn 9999 24 (.agg (av C)) (.agg (av D))).run Tryz.prog W = .ok (decide (C = D)) W := by
 obtain ⟨q, hq⟩ : ∃ q, Tryz.prog.info? 23 = some q := by
  cases hq : Tryz.prog.info? 23 with
  | none => have := zju; rw [hq] at this; cases this
  | some q => exact ⟨q, rfl⟩
 have h1 := run_equalIn_array (P := Tryz.prog) (w := W) 9998 (av C) (av D) zae hq
 rw [zkh, zft W C D (List.range 8) (fun i hi => by have := List.mem_range.1 hi; omega)] at h1
 have hall : ((List.range 8).all fun i => C.getD i 0 == D.getD i 0) = decide (C = D) := by
  apply Bool.eq_iff_iff.2
  rw [List.all_eq_true, decide_eq_true_iff]
  constructor
  ·intro h
   apply List.ext_getElem (by omega)
   intro i h1 h2
   have := h i (List.mem_range.2 (by omega))
   simpa [List.getD_eq_getElem?_getD, List.getElem?_eq_getElem h1, List.getElem?_eq_getElem h2] using this
  ·intro h i _
   rw [h]; simp
 rw [hall] at h1
 exact h1
set_option maxRecDepth 20000 in
theorem zfw (k k' : Int) (n n' : ByteArray) (v v' : Int) (g g' : List Nat) (hg : g.length = 8) (hg' : g'.length = 8) (W : World) :
 (binOp .eql 26 (.agg (hc k n v g)) (.agg (hc k' n' v' g'))).run Tryz.prog W = .ok (.bool (decide (k = k' /\ n.toList = n'.toList /\ v = v' /\ g = g'))) W := by
 have h8 := zfv g g' hg hg' W
 obtain ⟨a0, a1, a2, a3, a4, a5, a6, a7, rfl⟩ := zfu g hg
 obtain ⟨b0, b1, b2, b3, b4, b5, b6, b7, rfl⟩ := zfu g' hg'
 ·skip
  obtain ⟨q, hq⟩ : ∃ q, q = decide ([a0, a1, a2, a3, a4, a5, a6, a7] = [b0, b1, b2, b3, b4, b5, b6, b7]) := ⟨_, rfl⟩
  rw [<- hq] at h8
  have e1 : av [a0, a1, a2, a3, a4, a5, a6, a7] = #[.int .u16 (a0 : Int), .int .u16 (a1 : Int), .int .u16 (a2 : Int), .int .u16 (a3 : Int), .int .u16 (a4 : Int), .int .u16 (a5 : Int), .int .u16 (a6 : Int), .int .u16 (a7 : Int)] := rfl
  have e2 : av [b0, b1, b2, b3, b4, b5, b6, b7] = #[.int .u16 (b0 : Int), .int .u16 (b1 : Int), .int .u16 (b2 : Int), .int .u16 (b3 : Int), .int .u16 (b4 : Int), .int .u16 (b5 : Int), .int .u16 (b6 : Int), .int .u16 (b7 : Int)] := rfl
  rw [e1, e2] at h8
  have e3 : decide (k = k' /\ n.toList = n'.toList /\ v = v' /\ [a0, a1, a2, a3, a4, a5, a6, a7] = [b0, b1, b2, b3, b4, b5, b6, b7]) = (decide (k = k') && (decide (n.toList = n'.toList) && (decide (v = v') && q))) := by
   rw [hq, Bool.eq_iff_iff]
   simp only [decide_eq_true_eq, Bool.and_eq_true]
  rw [e3]
  have e4 : ∀ (x0 x1 x2 x3 x4 x5 x6 x7 : Nat), hc k n v [x0, x1, x2, x3, x4, x5, x6, x7] = #[.int .i64 k, .string n, .int .u32 v, .int .u16 (x0 : Int), .int .u16 (x1 : Int), .int .u16 (x2 : Int), .int .u16 (x3 : Int), .int .u16 (x4 : Int), .int .u16 (x5 : Int), .int .u16 (x6 : Int), .int .u16 (x7 : Int)] := fun _ _ _ _ _ _ _ _ => rfl
  have e5 : hc k' n' v' [b0, b1, b2, b3, b4, b5, b6, b7] = #[.int .i64 k', .string n', .int .u32 v', .int .u16 (b0 : Int), .int .u16 (b1 : Int), .int .u16 (b2 : Int), .int .u16 (b3 : Int), .int .u16 (b4 : Int), .int .u16 (b5 : Int), .int .u16 (b6 : Int), .int .u16 (b7 : Int)] := rfl
  rw [e4, e5]
  clear e1 e2 e3 e4 e5 hq
  by_cases h1 : k = k' <;> by_cases h2 : n.toList = n'.toList <;> by_cases h3 : v = v' <;> cases q <;> simp [go_sem, h1, h2, h3, h8]
end

section
open Go.RowKit
set_option maxHeartbeats 16000000
variable {F : Fence} {n : Nat} {P : Program}
def z1i {β : Type} (Al : Nat -> Prop) (J : β -> World -> Prop) : Prop := ∀ s W W' row, J s W -> W.grownBy W' row -> (∀ r, row = some r -> Al r) -> J s W'
def z1j (Kr : Nat -> Prop) (W W' : World) : Prop := ∀ r, Kr r -> W'.heap[r]? = W.heap[r]?
def z1k {α : Type} (F : Fence) (n : Nat) (P : Program) (g : Nat) (lb : Array Value) (enc : α -> Value) (Al Kr : Nat -> Prop) (S Sp : List α -> Prop) (N : Nat) (w0 : World) : Prop :=
 ∀ (l : Nat) (J Jx : List α -> World -> Prop), z1i Al J -> z1i Al Jx ->
  (∀ pre x W1, J pre W1 -> pre.length < N -> YieldAt F (n - 1) P l #[enc x] W1 fun e W' =>
    (e = .returned (.bool true) /\ J (pre ++ [x]) W' /\ z1j Kr W1 W' /\ W1.heap.size <= W'.heap.size) \/ (e = .returned (.bool false) /\ Jx (pre ++ [x]) W')) ->
  J [] w0 -> CallsIn F n P g (#[.func (.yield l) #[] #[]] ++ lb) w0 fun e W' => (∃ v, e = .returned v) /\ ((∃ xs, S xs /\ J xs W') \/ (∃ pre, Sp pre /\ Jx pre W'))
def z1l {α : Type} (B : Nat) (Kr : Nat -> Prop) (I : List α -> World -> Prop) (Ix : Code -> List α -> World -> Prop) (xs : List α) (W : World) : Exit -> Act -> World -> Prop
 | .normal, _, W' => KeepsFrom B W W' /\ z1j Kr W W' /\ I xs W'
 | .ret, _, W' => KeepsFrom B W W' /\ Ix .ret xs W'
 | .exit id, _, W' => KeepsFrom B W W' /\ Ix (.exit id) xs W'
 | .goto t, _, W' => KeepsFrom B W W' /\ Ix (.goto t) xs W'
 | .panic _, _, _ => False
 | .outgrown, _, _ => False
def z1m {β : Type} (Al : Nat -> Prop) (B : Nat) (I : β -> World -> Prop) : Prop :=
 ∀ s W W' row, I s W -> W.grownBy W' row -> (∀ r, row = some r -> Al r \/ (B <= r /\ ∃ o : Obj, W.heap[r]? = some o /\ o.isCells = false)) -> I s W'
theorem z1m.and {β : Type} {Al : Nat -> Prop} {B : Nat} {I I' : β -> World -> Prop} (h : z1m Al B I) (h' : z1m Al B I') : z1m Al B (fun s W => I s W /\ I' s W) := fun s W W' row hs hg hr => ⟨h s W W' row hs.1 hg hr, h' s W W' row hs.2 hg hr⟩
theorem z1n {β : Type} {Al : Nat -> Prop} {B : Nat} (p : β -> Prop) : z1m Al B (fun s _ => p s) := fun _ _ _ _ hs _ _ => hs
theorem z1o {β : Type} {Al : Nat -> Prop} {B n₀ : Nat} {w₀ : World} (hn : n₀ <= w₀.heap.size) (hB : n₀ <= B) (hA : ∀ r, Al r -> n₀ <= r) : z1m Al B (fun (_ : β) W => Below n₀ w₀ W) :=
 fun _ _ _ _ hs hg hr => hs.grown hg (Nat.le_trans hn hs.size) (fun k e => by
  rcases hr k e with h | h
  ·exact hA k h
  ·exact Nat.le_trans hB h.1)
theorem z1p {β : Type} {Al : Nat -> Prop} {B : Nat} (b : Nat) (t : TypeId) (v : β -> Value) (hA : ¬ Al b) : z1m Al B (fun s W => Boxed W b t (v s)) := by
 intro s W W' row hs hg hr
 refine hs.kept hg ?_
 intro e
 rcases hr b e.symm with h | ⟨_, o, ho, hc⟩
 ·exact hA h
 ·rw [show W.heap[b]? = _ from hs] at ho
  cases ho
  cases hc
theorem z1m.put {β : Type} {Al : Nat -> Prop} {B : Nat} {I : β -> World -> Prop} (h : z1m Al B I) {s : β} {W : World} {l : Nat} {o : Obj} (o' : Obj) (hs : I s W) (hB : B <= l) (hl : W.heap[l]? = some o) (ho : o.isCells = false) : I s (W.putObj l o') :=
 h s W _ (some l) hs (grownBy_putObj' W l o') (fun r e => by cases e; exact .inr ⟨hB, o, hl, ho⟩)
theorem z1q {α : Type} {g : Operand} {ps : Array Tmp} {assign body : Code} {Q : Exit -> Act -> World -> Prop} {a : Act} {w : World}
 (hro : F.round = none) (h1 : 1 <= n) {gf : Nat} {lb : Array Value} (hg : a.eval g = .func (.func gf) #[] lb) (hFg : F.fn gf) (eg : ∀ args w, (callFunc gf args).run P w = .ok (.enter gf args) w)
 {enc : α -> Value} {Al Kr : Nat -> Prop} {S Sp : List α -> Prop} {N : Nat} (hAl : ∀ r, Al r -> r < w.heap.size) (hKr : ∀ r, Kr r -> r < w.heap.size)
 (hseq : ∀ W0, w.grownBy W0 none -> z1k F (n - 1) P gf lb enc Al Kr S Sp N W0) (hps : ps.size = 1)
 (I : List α -> World -> Prop) (Ix : Code -> List α -> World -> Prop) (hI : z1m Al w.heap.size I) (hIx : ∀ c, z1m Al w.heap.size (Ix c)) (h0 : I [] w) (a₁ : α -> Act)
 (hassign : ∀ (l : Nat) (x : α) (W : World) (K : Act -> World -> Prop), K (a₁ x) W ->
   assign.wpIn (F.inRound l) (n - 1 - 1) P (Exit.then K (fun _ _ _ => False)) { tmps := (ps.zip #[enc x]).foldl (fun t (p, v) => t.setIfInBounds p v) a.tmps, defers := [] } W)
 (hbody : ∀ (l : Nat) (pre : List α) (x : α) (W : World), w.heap.size < l -> l < W.heap.size -> I pre W -> pre.length < N -> body.wpIn (F.inRound l) (n - 1 - 1) P (z1l w.heap.size Kr I Ix (pre ++ [x]) W) (a₁ x) W)
 (hdone : ∀ (D : Nat) (xs : List α) (W : World), w.heap.size <= D -> S xs -> I xs W -> W.heap[D]? = some (.deferred (some [])) -> Q .normal { a with defers := { target := .collected D, args := #[] } :: a.defers } W)
 (hstop : ∀ (D : Nat) (c : Code) (pre : List α) (W : World), w.heap.size <= D -> Sp pre -> Ix c pre W -> W.heap[D]? = some (.deferred (some [])) -> c.wpIn F n P Q { a with defers := { target := .collected D, args := #[] } :: a.defers } W) :
 (Code.rangeFunc g ps assign body).wpIn F n P Q a w := by
 refine wpIn_rangeFunc ?_
 intro fn hfn
 rw [hro]
 obtain ⟨D, hD⟩ : ∃ D, D = w.heap.size := ⟨_, rfl⟩
 obtain ⟨lp, hlp⟩ : ∃ lp : LoopState -> Option Code -> Loop, lp = fun st pe => { state := st, pending := pe, fn, tmps := a.tmps, params := ps, assign, body, defers := w.heap.size } := ⟨_, rfl⟩
 obtain ⟨W1, hW1⟩ : ∃ W1, W1 = (w.alloc (.deferred (some []))).alloc (.loop (lp .ready none)) := ⟨_, rfl⟩
 have hL1 : W1.heap[D + 1]? = some (.loop (lp .ready none)) := by
  have := World.alloc_heap_new (w.alloc (.deferred (some []))) (.loop (lp .ready none))
  rw [World.size_alloc] at this
  rw [hW1, hD]
  exact this
 have hK1 : W1.heap[D]? = some (.deferred (some [])) := by
  rw [hW1, hD]
  exact (Below.heap_alloc _ _ _ (by simp)).trans (World.alloc_heap_new w _)
 have hg1 : w.grownBy W1 none := by
  have g1 := World.grownBy_alloc w (.deferred (some [])) none
  have g2 := World.grownBy_alloc (w.alloc (.deferred (some []))) (.loop (lp .ready none)) none
  rw [hW1]
  exact ⟨g2.os.trans g1.os, g2.tape.trans g1.tape, g2.output.trans g1.output, Nat.le_trans g1.size g2.size, fun k hk hr => (g2.block k (Nat.lt_of_lt_of_le hk g1.size) hr).trans (g1.block k hk hr)⟩
 have hI1 : I [] W1 := hI _ _ _ none h0 hg1 (fun r e => by cases e)
 have keep : ∀ {A B : World} {row : Option Nat} {k : Nat} {o : Obj}, A.grownBy B row -> (∀ r, row = some r -> Al r) -> w.heap.size <= k -> A.heap[k]? = some o -> B.heap[k]? = some o := by
  intro A B row k o hgr hrow hk ho
  refine (hgr.block k (Array.getElem?_eq_some_iff.1 ho).1 ?_).trans ho
  intro e
  have := hAl k (hrow k e.symm)
  omega
 refine ⟨D + 1, [{ target := .collected D, args := #[] }], W1, { target := .fn (.func gf) lb, args := #[.func (.yield (D + 1)) #[] #[]] }, W1, gf, #[.func (.yield (D + 1)) #[] #[]] ++ lb, W1, ?_, ?_, ?_, ?_, fun _ => h1, ?_⟩
 ·rw [hW1, hlp, hD]
  exact run_enterLoop_outer _ _ _ _ _
 ·simp only [resolve, hg]
  simp [go_sem]
 ·intro f' hf'
  simp [Target.leads] at hf'
  subst hf'
  exact hFg
 ·simp [invoke, go_sem, eg]
 ·refine (hseq W1 hg1 (D + 1)
   (fun pre W => I pre W /\ W.heap[D + 1]? = some (.loop (lp .ready none)) /\ W.heap[D]? = some (.deferred (some [])))
   (fun pre W => ∃ c, Ix c pre W /\ W.heap[D + 1]? = some (.loop (lp .done (some c))) /\ W.heap[D]? = some (.deferred (some [])))
   (fun s A B row hs hgr hr => ⟨hI s A B row hs.1 hgr (fun r e => .inl (hr r e)), keep hgr hr (by omega) hs.2.1, keep hgr hr (by omega) hs.2.2⟩)
   (fun s A B row hs hgr hr => by
     obtain ⟨c, hc, hl, hk⟩ := hs
     exact ⟨c, hIx c s A B row hc hgr (fun r e => .inl (hr r e)), keep hgr hr (by omega) hl, keep hgr hr (by omega) hk⟩)
   ?_ ⟨hI1, hL1, hK1⟩).mono ?_
  ·rintro pre x W ⟨hi, hl, hk⟩ hlen
   have hlt : D + 1 < W.heap.size := (Array.getElem?_eq_some_iff.1 hl).1
   have hy := run_yield (P := P) (args := #[enc x]) hl (by rw [hlp]; simp [hps])
   rw [hlp] at hy
   obtain ⟨W2, hW2⟩ : ∃ W2, W2 = W.putObj (D + 1) (.loop { lp .ready none with state := .busy }) := ⟨_, rfl⟩
   have hl2 : W2.heap[D + 1]? = some (.loop { lp .ready none with state := .busy }) := by rw [hW2]; exact World.putObj_heap_same hlt
   have hk2 : W2.heap[D]? = some (.deferred (some [])) := by rw [hW2]; exact (World.putObj_heap_other (by omega)).trans hk
   have hs2 : W2.heap.size = W.heap.size := by rw [hW2]; exact World.putObj_size
   have hsame2 : z1j Kr W W2 := fun r hr => by rw [hW2]; exact World.putObj_heap_other (by have := hKr r hr; omega)
   have hi2 : I pre W2 := by rw [hW2]; exact hI.put _ hi (by omega) hl rfl
   refine ⟨fn, _, assign, body, hy, roundIn_of_wpIn hfn (hassign _ x W _ ⟨W2, by rw [hW2]; exact run_beginRound hl (by rw [hlp]), ?_⟩)⟩
   refine wpIn_mono (hbody _ pre x W2 (by omega) (by omega) hi2 hlen) ?_
   have fin : ∀ (jump : Option Code) (W3 : World), KeepsFrom w.heap.size W2 W3 ->
    ∃ W4, W4 = W3.putObj (D + 1) (.loop (lp (if jump.isNone then .ready else .done) jump)) /\ (Instr.endRound (D + 1) jump).run P W3 = .ok (.bool jump.isNone) W4 /\
    (∀ (J : List α -> World -> Prop) (s : List α), z1m Al w.heap.size J -> J s W3 -> J s W4) /\ z1j Kr W3 W4 /\ W.heap.size <= W4.heap.size /\
    W4.heap[D + 1]? = some (.loop (lp (if jump.isNone then .ready else .done) jump)) /\ W4.heap[D]? = some (.deferred (some [])) := by
    intro jump W3 hk3
    have hl3 := hk3.same _ _ (by omega) hl2 rfl
    have he := run_endRound (P := P) jump hl3
    have hl3' := hl3
    rw [hlp] at he hl3'
    refine ⟨_, rfl, by rw [hlp]; exact he, fun J s hJ hs => hJ.put _ hs (by omega) hl3' rfl, fun r hr => World.putObj_heap_other (by have := hKr r hr; omega), by rw [World.putObj_size]; have := hk3.size; omega,
     World.putObj_heap_same (Array.getElem?_eq_some_iff.1 hl3).1, (World.putObj_heap_other (by omega)).trans (hk3.same _ _ (by omega) hk2 rfl)⟩
   rintro e a3 W3 hp
   cases e with
   | normal =>
     obtain ⟨hk3, hs3, hi3⟩ := hp
     obtain ⟨W4, _, hr, hj, hs4, hz4, hl4, hk4⟩ := fin none W3 hk3
     exact ⟨_, _, hr, .inl ⟨rfl, ⟨hj I _ hI hi3, hl4, hk4⟩, fun r hkr => (hs4 r hkr).trans ((hs3 r hkr).trans (hsame2 r hkr)), hz4⟩⟩
   | ret =>
     obtain ⟨hk3, hi3⟩ := hp
     obtain ⟨W4, _, hr, hj, _, _, hl4, hk4⟩ := fin (some .ret) W3 hk3
     exact ⟨_, _, hr, .inr ⟨rfl, .ret, hj (Ix .ret) _ (hIx _) hi3, hl4, hk4⟩⟩
   | exit id =>
     obtain ⟨hk3, hi3⟩ := hp
     obtain ⟨W4, _, hr, hj, _, _, hl4, hk4⟩ := fin (some (.exit id)) W3 hk3
     exact ⟨_, _, hr, .inr ⟨rfl, .exit id, hj (Ix (.exit id)) _ (hIx _) hi3, hl4, hk4⟩⟩
   | goto t =>
     obtain ⟨hk3, hi3⟩ := hp
     obtain ⟨W4, _, hr, hj, _, _, hl4, hk4⟩ := fin (some (.goto t)) W3 hk3
     exact ⟨_, _, hr, .inr ⟨rfl, .goto t, hj (Ix (.goto t)) _ (hIx _) hi3, hl4, hk4⟩⟩
   | panic ch => exact hp.elim
   | outgrown => exact hp.elim
  ·rintro e W2 ⟨⟨v, rfl⟩, (⟨xs, hS, hi, hl, hk⟩ | ⟨pre, hSp, c, hi, hl, hk⟩)⟩
   ·have he := run_endLoop (P := P) hl (by rw [hlp]; simp)
    rw [hlp] at he
    refine ⟨none, _, he, ?_⟩
    exact hdone D xs _ (by omega) hS (hI.put _ hi (by omega) hl rfl) ((World.putObj_heap_other (by omega)).trans hk)
   ·have he := run_endLoop (P := P) hl (by rw [hlp]; simp)
    rw [hlp] at he
    refine ⟨some c, _, he, ?_⟩
    exact hstop D c pre _ (by omega) hSp ((hIx c).put _ hi (by omega) hl rfl) ((World.putObj_heap_other (by omega)).trans hk)
end

end Go.Proofs.YtekaljeicfjkjaaGreatDoor
