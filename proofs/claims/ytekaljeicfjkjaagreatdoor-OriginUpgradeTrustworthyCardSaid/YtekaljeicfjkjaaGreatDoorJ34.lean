/-
The reference's Parse of layer 14 (written by tools/gen-HrP.py).
-/
import Derived.Test.YtekaljeicfjkjaaGreatDoorJ33
import Derived.Test.YtekaljeicfjkjaaGreatDoorJ31
import Derived.Test.YtekaljeicfjkjaaGreatDoorJ22
import Derived.Test.YtekaljeicfjkjaaGreatDoorJ09
import Derived.Deep.Cut
import Derived.Deep.CutRange
namespace Go.Proofs.YtekaljeicfjkjaaGreatDoor
section
open Go.RowKit Go.Shelf
set_option maxHeartbeats 16000000
theorem ziz (x : List UInt8) : ∀ Q : List (List UInt8), z2v 46 (Q ++ [x]) = z2v 46 Q ++ ((if Q = [] then [] else [46]) ++ x)
 | [] => rfl
 | [a] => rfl
 | a :: b :: r => by
   have ih := ziz x (b :: r)
   rw [if_neg (by simp)] at ih ⊢
   rw [List.cons_append, z2w 46 a _ (by simp), ih, z2w 46 a (b :: r) (by simp)]
   simp
theorem zi0 (c : UInt8) : ∀ (l cur : List UInt8), ∀ x ∈ z2l c l cur, x.length <= cur.length + l.length
 | [], cur, x, h => by
   rw [z2l] at h
   simp at h
   rw [h]
   simp
 | b :: l, cur, x, h => by
   rw [z2l] at h
   split at h
   ·rcases List.mem_cons.1 h with rfl | h
    ·simp
    ·have := zi0 c l [] x h
     simp at this ⊢
     omega
   ·have := zi0 c l (cur ++ [b]) x h
    simp at this ⊢
    omega
theorem zi1 (c : UInt8) (l x : List UInt8) (h : x ∈ z2m c l) : x.length <= l.length := by
 have := zi0 c l [] x h
 simpa using this
def nmB (p : List (List UInt8)) : List (List UInt8) := p.map fun x => (toA x).2
theorem zi2 : ∀ p : List (List UInt8), (∀ x ∈ p, (toA x).1 = 0) -> zg6 p = (0, nmB p)
 | [], _ => rfl
 | x :: r, h => by
   have ih := zi2 r (fun y hy => h y (by simp [hy]))
   rw [zg6, if_pos (h x (by simp)), ih]
   rfl
theorem zi3 : ∀ (p : List (List UInt8)) (x : List UInt8) (t : List (List UInt8)), (∀ y ∈ p, (toA y).1 = 0) -> (toA x).1 ≠ 0 -> zg6 (p ++ x :: t) = ((toA x).1, [])
 | [], x, t, _, hx => by rw [List.nil_append, zg6, if_neg hx]
 | y :: r, x, t, h, hx => by
   have ih := zi3 r x t (fun z hz => h z (by simp [hz])) hx
   rw [List.cons_append, zg6, if_pos (h y (by simp)), ih, if_neg hx]
theorem zi4 {p : List (List UInt8)} (h : ∀ x ∈ p, (toA x).1 = 0) : ∀ y ∈ nmB p, y.length <= 63 := by
 intro y hy
 obtain ⟨x, hx, rfl⟩ := List.mem_map.1 hy
 rcases zsf x with ⟨_, h2⟩ | ⟨h2, _⟩
 ·exact (zsb h2).2.2
 ·exact absurd (h x hx) h2
theorem zi5 (q : List (List UInt8)) (h : ∀ x ∈ q, x.length <= 63) : (z2v 46 q).length <= 64 * q.length := ze6 q h
theorem zi6 {l : List UInt8} (hn : zpn l = false) : zhk l = if (zg6 (z2m 46 l)).1 = 0 then jN (zg6 (z2m 46 l)).2 else ((zg6 (z2m 46 l)).1, hv0) := by
 unfold zhk jN
 rw [if_neg (by rw [hn]; simp)]
theorem zi7 {l : List UInt8} (hn : zpn l = true) : zhk l = pN l := by
 unfold zhk pN
 rw [if_pos hn]
 cases pnL l <;> rfl
theorem zi8 (t : List UInt8) : zq0 t = if t.getLast? = some 46 then t.take (t.length - 1) else t := by
 unfold zq0
 split
 ·rw [List.dropLast_eq_take]
 ·rfl
theorem zi9 (s : ByteArray) (h : 0 < s.size) : (ls s).getLast? = some (s[s.size - 1]'(by omega)) := by
 rw [List.getLast?_eq_getElem?, zb4]
 exact zb7 s (s.size - 1) (by omega)
theorem zja (s : ByteArray) (h : 0 < s.size) : (s.toList == ([] : List UInt8)) = false /\ s.toList.isEmpty = false := by
 rw [zb3]
 have hl := zb4 s
 cases hs : ls s with
 | nil => rw [hs] at hl; simp at hl; omega
 | cons a r => exact ⟨rfl, rfl⟩
theorem zjb (s : ByteArray) (h : s.size = 0) : (s.toList == ([] : List UInt8)) = true /\ s.toList.isEmpty = true := by
 rw [zb3]
 have hl := zb4 s
 cases hs : ls s with
 | nil => exact ⟨rfl, rfl⟩
 | cons a r => rw [hs] at hl; simp at hl; omega
set_option maxRecDepth 100000 in
theorem zjc (s : ByteArray) (w : World) (hs : s.size <= 100000000) (h1 : 1024 < s.size) : Calls Tryz.prog 61 #[.string s] w (zed w (zhm (ls s))) := by
 have hr : zgo (w.alloc (.cells hz 26)) w.heap.size hz := zat w _ _
 have hb : Below w.heap.size w (w.alloc (.cells hz 26)) := (Below.refl _ _).alloc jH _
 ·have e : zhm (ls s) = (3, hv0) := by unfold zhm; rw [if_pos (by rw [zb4]; exact h1)]
  rw [e]
  have hd : decide ((1024 : Int) < (s.size : Int)) = true := jT (by omega)
  clear h1 e
  go_enter Tryz.func61, Tryz.ntmps61
  go_wp2_with (refine zea rfl rfl _ _ rfl w.heap.size (by exact rfl) hz (by exact rfl) _ hr rfl rfl (zgl _ _ _ _) ?_; intro wz hrz hgz)
  exact zgr 2 3 rfl w.heap.size rfl hz hrz rfl _ rfl rfl ⟨rfl, zau hb hgz jH jH⟩
set_option maxRecDepth 100000 in
theorem zjd (s : ByteArray) (w : World) (hs : s.size <= 100000000) (h1 : ¬ 1024 < s.size) (hh : (ls s).head? = some 91) : Calls Tryz.prog 61 #[.string s] w (zed w (zhm (ls s))) := by
 have hr : zgo (w.alloc (.cells hz 26)) w.heap.size hz := zat w _ _
 have hb : Below w.heap.size w (w.alloc (.cells hz 26)) := (Below.refl _ _).alloc jH _
 have hd : decide ((1024 : Int) < (s.size : Int)) = false := jF (by omega)
 ·have h0 : 0 < s.size := by
   have hl := zb4 s
   cases hls : ls s with
   | nil => rw [hls] at hh; cases hh
   | cons a r => rw [hls] at hl; simp at hl; omega
  obtain ⟨em1, em2⟩ := zja s h0
  have hb0 : ((s[0].toNat : Int) == 91) = true := by
   rw [zqp s h0] at hh
   injection hh with hh
   rw [hh]; rfl
  have e : zhm (ls s) = zhl (ls s) := by unfold zhm; rw [if_neg (by rw [zb4]; exact h1), if_pos hh]
  rw [e]
  have hlast := zi9 s h0
  obtain ⟨m, hm⟩ : ∃ m, m = s.size - 1 := ⟨_, rfl⟩
  have hm2 : m < s.size := by omega
  have hlast2 : (ls s).getLast? = some s[m] := by rw [hlast]; congr 2; exact hm.symm
  have hm3 : (s.size : Int) - 1 = (m : Int) := by omega
  clear hlast e h1 hm
  by_cases hq : s[m] = 93 /\ 2 <= s.size
  ·have q1 : ((s[m].toNat : Int) == 93) = true := by rw [hq.1]; rfl
   have q2 : ((s[m].toNat : Int) != 93) = false := by rw [bne, q1]; rfl
   have q3 : decide ((s.size : Int) < 2) = false := jF (by omega)
   have e6 : zhl (ls s) = match zm9 (ls (s.extract 1 m)) with | none => (14, hv0) | some g => (0, hv6 g) := by
    unfold zhl
    rw [if_neg (by rw [hlast2, hq.1, zb4]; simp; omega), zb9, List.dropLast_eq_take, List.length_drop, zb4]
    rw [show s.size - 1 - 1 = m - 1 by omega]
    rfl
   rw [e6]
   have hsz : (s.extract 1 m).size <= 1000000000 := by rw [<- zb4, zb9, List.length_take, List.length_drop, zb4]; omega
   have c := fun W => zkd (s.extract 1 m) W hsz
   have hm1 : 1 <= m := by omega
   clear e6 hsz hlast2 hh hq
   cases hp : zm9 (ls (s.extract 1 m)) with
   | none =>
     rw [hp] at c
     rw [show av (zj7 none) = #[.int .u16 0, .int .u16 0, .int .u16 0, .int .u16 0, .int .u16 0, .int .u16 0, .int .u16 0, .int .u16 0] from rfl, show (none : Option (List Nat)).isSome = false from rfl] at c
     clear hp
     go_enter Tryz.func61, Tryz.ntmps61
     go_wp2_with fail
     refine (c _).mono ?_
     rintro e w1 ⟨rfl, hbn⟩
     replace hr : zgo w1 w.heap.size hz := Row.below hr hbn hr.lt
     replace hb := hb.trans (hbn.mono hb.size)
     clear hbn
     replace hr : zgo (w1.alloc (.cells #[.int .u16 0, .int .u16 0, .int .u16 0, .int .u16 0, .int .u16 0, .int .u16 0, .int .u16 0, .int .u16 0] 24)) w.heap.size hz := Row.grown0 hr (World.grownBy_alloc _ _ _)
     replace hb := hb.alloc hb.size (.cells #[.int .u16 0, .int .u16 0, .int .u16 0, .int .u16 0, .int .u16 0, .int .u16 0, .int .u16 0, .int .u16 0] 24)
     go_wp2_with (refine zea rfl rfl _ _ rfl w.heap.size (by exact rfl) hz (by exact rfl) _ hr rfl rfl (zgl _ _ _ _) ?_; intro wz hrz hgz)
     exact zgr 2 3 rfl w.heap.size rfl hz hrz rfl _ rfl rfl ⟨rfl, zau hb hgz jH jH⟩
   | some g =>
     have hg8 : g.length = 8 := (zij hp).1
     rw [hp] at c
     obtain ⟨x0, x1, x2, x3, x4, x5, x6, x7, rfl⟩ := zfu g hg8
     rw [show av (zj7 (some [x0, x1, x2, x3, x4, x5, x6, x7])) = #[.int .u16 (x0 : Nat), .int .u16 (x1 : Nat), .int .u16 (x2 : Nat), .int .u16 (x3 : Nat), .int .u16 (x4 : Nat), .int .u16 (x5 : Nat), .int .u16 (x6 : Nat), .int .u16 (x7 : Nat)] from rfl, show (some [x0, x1, x2, x3, x4, x5, x6, x7]).isSome = true from rfl] at c
     clear hp hg8
     go_enter Tryz.func61, Tryz.ntmps61
     go_wp2_with fail
     refine (c _).mono ?_
     rintro e w1 ⟨rfl, hbn⟩
     replace hr : zgo w1 w.heap.size hz := Row.below hr hbn hr.lt
     replace hb := hb.trans (hbn.mono hb.size)
     clear hbn
     replace hr : zgo (w1.alloc (.cells #[.int .u16 (x0 : Nat), .int .u16 (x1 : Nat), .int .u16 (x2 : Nat), .int .u16 (x3 : Nat), .int .u16 (x4 : Nat), .int .u16 (x5 : Nat), .int .u16 (x6 : Nat), .int .u16 (x7 : Nat)] 24)) w.heap.size hz := Row.grown0 hr (World.grownBy_alloc _ _ _)
     replace hb := hb.alloc hb.size (.cells #[.int .u16 (x0 : Nat), .int .u16 (x1 : Nat), .int .u16 (x2 : Nat), .int .u16 (x3 : Nat), .int .u16 (x4 : Nat), .int .u16 (x5 : Nat), .int .u16 (x6 : Nat), .int .u16 (x7 : Nat)] 24)
     go_wp2_with (refine zea rfl rfl _ _ rfl w.heap.size (by exact rfl) (hc 3 ⟨#[]⟩ 0 [x0, x1, x2, x3, x4, x5, x6, x7]) (by exact rfl) _ hr rfl rfl (zgl _ _ _ _) ?_; intro wz hrz hgz)
     exact zgr 2 3 rfl w.heap.size rfl (hc 3 ⟨#[]⟩ 0 [x0, x1, x2, x3, x4, x5, x6, x7]) hrz rfl _ rfl rfl ⟨rfl, zau hb hgz jH jH⟩
  ·have e6 : zhl (ls s) = (14, hv0) := by
    unfold zhl
    rw [if_pos]
    rw [hlast2, zb4]
    by_cases h93 : s[m] = 93
    ·exact .inr (by have : ¬ 2 <= s.size := fun h => hq ⟨h93, h⟩; omega)
    ·left
     intro h
     injection h with h
     exact h93 h
   rw [e6]
   have hq2 : ((s[m].toNat : Int) != 93) = true \/ (((s[m].toNat : Int) != 93) = false /\ decide ((s.size : Int) < 2) = true) := by
    by_cases h93 : s[m] = 93
    ·right
     have : ((s[m].toNat : Int) == 93) = true := by rw [h93]; rfl
     exact ⟨by rw [bne, this]; rfl, jT (by have : ¬ 2 <= s.size := fun h => hq ⟨h93, h⟩; omega)⟩
    ·left
     have : ((s[m].toNat : Int) == 93) = false := zqs h93
     rw [bne, this]; rfl
   clear e6 hlast2 hh hq
   rcases hq2 with q1 | ⟨q1, q2⟩
   ·skip
    go_enter Tryz.func61, Tryz.ntmps61
    go_wp2_with (refine zea rfl rfl _ _ rfl w.heap.size (by exact rfl) hz (by exact rfl) _ hr rfl rfl (zgl _ _ _ _) ?_; intro wz hrz hgz)
    exact zgr 2 3 rfl w.heap.size rfl hz hrz rfl _ rfl rfl ⟨rfl, zau hb hgz jH jH⟩
   ·skip
    go_enter Tryz.func61, Tryz.ntmps61
    go_wp2_with (refine zea rfl rfl _ _ rfl w.heap.size (by exact rfl) hz (by exact rfl) _ hr rfl rfl (zgl _ _ _ _) ?_; intro wz hrz hgz)
    exact zgr 2 3 rfl w.heap.size rfl hz hrz rfl _ rfl rfl ⟨rfl, zau hb hgz jH jH⟩
set_option maxRecDepth 100000 in
theorem zje (s : ByteArray) (w : World) (hs : s.size <= 100000000) (h1 : ¬ 1024 < s.size) (hh : ¬ (ls s).head? = some 91) : Calls Tryz.prog 61 #[.string s] w (zed w (zhm (ls s))) := by
 have hr : zgo (w.alloc (.cells hz 26)) w.heap.size hz := zat w _ _
 have hb : Below w.heap.size w (w.alloc (.cells hz 26)) := (Below.refl _ _).alloc jH _
 have hd : decide ((1024 : Int) < (s.size : Int)) = false := jF (by omega)
 ·have hd2 : (s.toList.isEmpty = true /\ (s.toList == ([] : List UInt8)) = true) \/ (s.toList.isEmpty = false /\ (s.toList == ([] : List UInt8)) = false /\ ∃ h : 0 < s.size, ((s[0].toNat : Int) == 91) = false) := by
   by_cases h0 : 0 < s.size
   ·right
    obtain ⟨em1, em2⟩ := zja s h0
    refine ⟨em2, em1, h0, zqs (c := 91) (fun e => hh ?_)⟩
    rw [zqp s h0, e]
   ·left
    obtain ⟨em1, em2⟩ := zjb s (by omega)
    exact ⟨em2, em1⟩
  have cD := fun W => ziy s hs W
  have ep : zhm (ls s) = match zgz (ls s) with | none => (14, hv0) | some t => zhk (zq0 t) := by unfold zhm; rw [if_neg (by rw [zb4]; exact h1), if_neg hh]; cases zgz (ls s) <;> rfl
  rw [ep]
  clear ep hh
  cases hp : zgz (ls s) with
  | none =>
    rw [hp] at cD
    rw [show bs ((none : Option (List UInt8)).getD []) = ⟨#[]⟩ from rfl, show (none : Option (List UInt8)).isSome = false from rfl] at cD
    clear hp
    rcases hd2 with ⟨em2, em1⟩ | ⟨em2, em1, h0, hb0⟩
    ·skip
     go_enter Tryz.func61, Tryz.ntmps61
     go_wp2_with fail
     refine (cD _).mono ?_
     rintro e w1 ⟨rfl, hbn⟩
     replace hr : zgo w1 w.heap.size hz := Row.below hr hbn hr.lt
     replace hb := hb.trans (hbn.mono hb.size)
     clear hbn
     go_wp2_with (refine zea rfl rfl _ _ rfl w.heap.size (by exact rfl) hz (by exact rfl) _ hr rfl rfl (zgl _ _ _ _) ?_; intro wz hrz hgz)
     exact zgr 2 3 rfl w.heap.size rfl hz hrz rfl _ rfl rfl ⟨rfl, zau hb hgz jH jH⟩
    ·skip
     go_enter Tryz.func61, Tryz.ntmps61
     go_wp2_with fail
     refine (cD _).mono ?_
     rintro e w1 ⟨rfl, hbn⟩
     replace hr : zgo w1 w.heap.size hz := Row.below hr hbn hr.lt
     replace hb := hb.trans (hbn.mono hb.size)
     clear hbn
     go_wp2_with (refine zea rfl rfl _ _ rfl w.heap.size (by exact rfl) hz (by exact rfl) _ hr rfl rfl (zgl _ _ _ _) ?_; intro wz hrz hgz)
     exact zgr 2 3 rfl w.heap.size rfl hz hrz rfl _ rfl rfl ⟨rfl, zau hb hgz jH jH⟩
  | some t =>
    show Calls _ _ _ _ (zed w (zhk (zq0 t)))
    rw [hp] at cD
    have htl := zfl hp
    rw [zb4] at htl
    rw [show (some t).getD [] = t from rfl, show (some t).isSome = true from rfl] at cD
    clear hp
    obtain ⟨T, hT⟩ : ∃ T, T = bs t := ⟨_, rfl⟩
    have hTl : ls T = t := by rw [hT, zb0]
    have hTz : T.size <= 1024 := by rw [hT, zb5]; omega
    rw [<- hT] at cD
    clear hT
    subst hTl
    obtain ⟨U, hU⟩ : ∃ U, U = bs (zq0 (ls T)) := ⟨_, rfl⟩
    have hUl : ls U = zq0 (ls T) := by rw [hU, zb0]
    have hUz : U.size <= 1024 := by rw [hU, zb5]; have := zfm (ls T); rw [zb4] at this; omega
    rw [<- hUl]
    have hdot : (U = T /\ (T.toList.isEmpty = true /\ (T.toList == ([] : List UInt8)) = true \/ T.toList.isEmpty = false /\ (T.toList == ([] : List UInt8)) = false /\ ∃ (m : Nat) (h : m < T.size), (T.size : Int) - 1 = (m : Int) /\ ((T[m].toNat : Int) == 46) = false)) \/
     (T.toList.isEmpty = false /\ (T.toList == ([] : List UInt8)) = false /\ ∃ (m : Nat) (h : m < T.size), (T.size : Int) - 1 = (m : Int) /\ ((T[m].toNat : Int) == 46) = true /\ T.extract 0 m = U) := by
     by_cases h0 : 0 < T.size
     ·obtain ⟨em1, em2⟩ := zja T h0
      have hl := zi9 T h0
      have hm3 : (T.size : Int) - 1 = ((T.size - 1 : Nat) : Int) := by omega
      by_cases h46 : T[T.size - 1]'(by omega) = 46
      ·right
       refine ⟨em2, em1, T.size - 1, by omega, hm3, by rw [h46]; rfl, ?_⟩
       rw [hU, zi8, hl, h46, if_pos rfl, zb4]
       have := zb9 T 0 (T.size - 1)
       rw [List.drop_zero, Nat.sub_zero] at this
       rw [<- this, zb1]
      ·left
       refine ⟨?_, .inr ⟨em2, em1, T.size - 1, by omega, hm3, zqs h46⟩⟩
       rw [hU, zi8, hl, if_neg, zb1]
       intro h
       injection h with h
       exact h46 h
     ·obtain ⟨em1, em2⟩ := zjb T (by omega)
      left
      refine ⟨?_, .inl ⟨em2, em1⟩⟩
      have : ls T = [] := List.length_eq_zero_iff.1 (by rw [zb4]; omega)
      rw [hU, this, show zq0 [] = [] from rfl, <- this, zb1]
    have HDOT := jL hdot
    clear hdot
    have HUl := jL hUl
    have cN := fun W => zo9 U W (by omega)
    have cP := fun W => zpf U W (by omega)
    have cS := fun W => z1h U 46 W (by omega)
    clear hU hUl
    have hmain : ∀ (sl : Array Value) (W : World) (K : Prop), True := fun _ _ _ => trivial
    clear hmain
    obtain ⟨R, hR⟩ : ∃ R, R = zhk (ls U) := ⟨_, rfl⟩
    rw [<- hR]
    have HR := jL hR
    clear hR
    rcases hd2 with ⟨em2, em1⟩ | ⟨em2, em1, h0, hb0⟩
    all_goals
     go_enter Tryz.func61, Tryz.ntmps61
     go_wp2_with fail
     refine (cD _).mono ?_
     rintro e w1 ⟨rfl, hbn⟩
     replace hr : zgo w1 w.heap.size hz := Row.below hr hbn hr.lt
     replace hb := hb.trans (hbn.mono hb.size)
     clear hbn
     clear em2 em1 cD
     obtain ⟨qd, hqd⟩ : ∃ q : Bool, (q = false /\ U = T /\ (T.toList.isEmpty = true /\ (T.toList == ([] : List UInt8)) = true \/ T.toList.isEmpty = false /\ (T.toList == ([] : List UInt8)) = false /\ ∃ (m : Nat) (h : m < T.size), (T.size : Int) - 1 = (m : Int) /\ ((T[m].toNat : Int) == 46) = false)) \/
      (q = true /\ T.toList.isEmpty = false /\ (T.toList == ([] : List UInt8)) = false /\ ∃ (m : Nat) (h : m < T.size), (T.size : Int) - 1 = (m : Int) /\ ((T[m].toNat : Int) == 46) = true /\ T.extract 0 m = U) := by
      rcases HDOT.out with h | h
      ·exact ⟨false, .inl ⟨rfl, h⟩⟩
      ·exact ⟨true, .inr ⟨rfl, h⟩⟩
     have HQD := jL hqd
     clear hqd HDOT
     go_upto_region 13 with fail
     go_cut [69] from 60 to 69 (fun v wx => wx = w1 /\ v = .bool qd)
     case first =>
      rcases HQD.out with ⟨rfl, rfl, ⟨em2, em1⟩ | ⟨em2, em1, m, hm, hm3, hq⟩⟩ | ⟨rfl, em2, em1, m, hm, hm3, hq, hX⟩
      ·go_wp2_with fail
       go_meet
       exact ⟨rfl, rfl⟩
      ·go_wp2_with fail
       go_meet
       exact ⟨rfl, rfl⟩
      ·go_wp2_with fail
       go_meet
       exact ⟨rfl, rfl⟩
     obtain ⟨hwx, hvx⟩ := hcut
     subst hwx
     subst hvx
     go_upto_if 69 with fail
     go_cut [6] from 70 to 74 (fun v wx => wc = wx /\ v = .string U)
     case first =>
      rcases HQD.out with ⟨rfl, rfl, _⟩ | ⟨rfl, em2, em1, m, hm, hm3, hq, hX⟩
      ·go_wp2_with fail
       go_meet
       exact ⟨rfl, rfl⟩
      ·go_wp2_with fail
       go_meet
       exact ⟨rfl, by rw [<- hX]⟩
     case rest =>
      obtain ⟨hwx, hvx⟩ := hcut
      subst hwx
      subst hvx
      clear HQD
      cases hn : zpn (ls U) with
      | true =>
        rw [hn] at cN
        have hRN := HR.out
        rw [zi7 hn] at hRN
        clear hn cS
        unfold pN at hRN
        cases hp : pnL (ls U) with
        | none =>
          rw [hp] at cP hRN
          have HRN := jL hRN
          clear hRN
          rw [show aV none = 0 from rfl, show aK none = false from rfl] at cP
          clear hp
          go_wp2_with fail
          refine (cN _).mono ?_
          rintro e w2 ⟨rfl, hbn⟩
          replace hr : zgo w2 w.heap.size hz := Row.below hr hbn hr.lt
          replace hb := hb.trans (hbn.mono hb.size)
          clear hbn
          go_wp2_with fail
          refine (cP _).mono ?_
          rintro e w3 ⟨rfl, hbn⟩
          replace hr : zgo w3 w.heap.size hz := Row.below hr hbn hr.lt
          replace hb := hb.trans (hbn.mono hb.size)
          clear hbn
          go_wp2_with (refine zea rfl rfl _ _ rfl w.heap.size (by exact rfl) hz (by exact rfl) _ hr rfl rfl (zgl _ _ _ _) ?_; intro wz hrz hgz)
          exact zgr 2 3 rfl w.heap.size rfl hz hrz rfl _ rfl rfl ⟨by rw [HRN.out]; rfl, zau hb hgz jH jH⟩
        | some v =>
          rw [hp] at cP hRN
          have HRN := jL hRN
          clear hRN
          rw [show aV (some v) = (v : Int) from rfl, show aK (some v) = true from rfl] at cP
          clear hp
          go_wp2_with fail
          refine (cN _).mono ?_
          rintro e w2 ⟨rfl, hbn⟩
          replace hr : zgo w2 w.heap.size hz := Row.below hr hbn hr.lt
          replace hb := hb.trans (hbn.mono hb.size)
          clear hbn
          go_wp2_with fail
          refine (cP _).mono ?_
          rintro e w3 ⟨rfl, hbn⟩
          replace hr : zgo w3 w.heap.size hz := Row.below hr hbn hr.lt
          replace hb := hb.trans (hbn.mono hb.size)
          clear hbn
          go_wp2_with (refine zea rfl rfl _ _ rfl w.heap.size (by exact rfl) (hc 2 ⟨#[]⟩ (v : Nat) z8) (by exact rfl) _ hr rfl rfl (zgl _ _ _ _) ?_; intro wz hrz hgz)
          exact zgr 2 3 rfl w.heap.size rfl (hc 2 ⟨#[]⟩ (v : Nat) z8) hrz rfl _ rfl rfl ⟨by rw [HRN.out]; rfl, zau hb hgz jH jH⟩
      | false =>
        rw [hn] at cN
        have hRN := HR.out
        rw [zi6 hn] at hRN
        clear hn cP
        have hPl := z2q 46 (ls U)
        rw [zb4] at hPl
        have hPs : ∀ x ∈ z2m 46 (ls U), x.length <= 1024 := fun x hx => Nat.le_trans (zi1 46 (ls U) x hx) (by rw [zb4]; exact hUz)
        generalize z2m 46 (ls U) = P at *
        have HRN := jL hRN
        clear hRN
        go_wp2_with fail
        refine (cN _).mono ?_
        rintro e w2 ⟨rfl, hbn⟩
        replace hr : zgo w2 w.heap.size hz := Row.below hr hbn hr.lt
        replace hb := hb.trans (hbn.mono hb.size)
        clear hbn
        go_wp2_with fail
        refine (cS _).mono ?_
        rintro e w3 ⟨v, n, rfl, hown, hbn⟩
        obtain ⟨A, c, rfl, hh9, hnc⟩ := Has.of_own hown
        obtain rfl : n = P.length := by have := hh9.1; rw [z3l] at this; exact this.symm
        replace hr : zgo w3 w.heap.size hz := Row.below hr hbn hr.lt
        replace hb := hb.trans (hbn.mono hb.size)
        clear hbn hown cS cN
        have HP1 := jL hPl
        have HPS := jL hPs
        clear hPl hPs
        obtain ⟨B3, hB3⟩ : ∃ b, b = w3.heap.size := ⟨_, rfl⟩
        have hB3' : B3 <= w3.heap.size := by omega
        rw [<- hB3] at hh9
        clear hB3
        go_wp2
        go_loopw [10, 12] (fun v i wr => ∃ k : Nat, k <= P.length /\ i = .int .i64 k /\ v = .string (bs (z2v 46 (nmB (P.take k)))) /\ Hid (∀ x ∈ P.take k, (toA x).1 = 0) /\ Has wr B3 A P.length (wv P) /\ B3 <= wr.heap.size /\ zgo wr w.heap.size hz /\ Below w.heap.size w wr) (fun _ i _ => P.length - (intOf i).toNat)
        case atStart => exact ⟨0, Nat.zero_le _, rfl, rfl, jL (fun x hx => by cases hx), hh9, hB3', hr, hb⟩
        case round =>
         clear hh9 hB3' hr hb
         obtain ⟨k, hk, rfl, rfl, HOK, hh9, hB3', hr, hb⟩ := hrel
         by_cases hlt : k < P.length
         ·obtain ⟨b, off, hA, hbB, hc⟩ := hh9.at_ hlt
          rw [z3m P k hlt] at hc
          have hk9 : k <= 2000 := by have := HP1.out; omega
          have hxz : P[k].length <= 1024 := HPS.out _ (List.getElem_mem hlt)
          have cT := fun W => zt5 (bs P[k]) W (by rw [zb5]; omega)
          have htk : P.take (k + 1) = P.take k ++ [P[k]] := by rw [List.take_succ_eq_append_getElem hlt]
          have hPe : P = P.take k ++ P[k] :: P.drop (k + 1) := by rw [<- List.drop_eq_getElem_cons hlt, List.take_append_drop]
          by_cases h0 : (toA P[k]).1 = 0
          ·have hok2 : ∀ x ∈ P.take (k + 1), (toA x).1 = 0 := by
            intro x hx
            rw [htk] at hx
            rcases List.mem_append.1 hx with hx | hx
            ·exact HOK.out x hx
            ·simp at hx
             rw [hx]
             exact h0
           have HOK2 := jL hok2
           have hJ0 := zi5 (nmB (P.take k)) (zi4 HOK.out)
           have hJl : (nmB (P.take k)).length <= 1025 := by unfold nmB; rw [List.length_map, List.length_take]; have := HP1.out; omega
           have hy1 : (toA P[k]).2.length <= 63 := by
            have := zi4 hok2 (toA P[k]).2 (by rw [htk]; unfold nmB; rw [List.map_append]; exact List.mem_append_right _ (by simp))
            exact this
           obtain ⟨Y, hY⟩ : ∃ Y, Y = bs (toA P[k]).2 := ⟨_, rfl⟩
           obtain ⟨X, hX⟩ : ∃ X, X = bs (z2v 46 (nmB (P.take k))) := ⟨_, rfl⟩
           have hXz : X.size <= 100000 := by rw [hX, zb5]; omega
           have hYz : Y.size <= 63 := by rw [hY, zb5]; exact hy1
           rw [zb0, <- hY, h0] at cT
           simp only [show ((0 : Nat) : Int) = 0 from rfl] at cT
           rw [<- hX]
           have HN : Hid (bs (z2v 46 (nmB (P.take (k + 1)))) = if k = 0 then X ++ Y else X ++ ⟨#[46]⟩ ++ Y) := by
            refine jL ?_
            have e9 : nmB (P.take (k + 1)) = nmB (P.take k) ++ [(toA P[k]).2] := by unfold nmB; rw [htk, List.map_append]; rfl
            have e8 : nmB (P.take k) = [] ↔ k = 0 := by
             unfold nmB
             rw [List.map_eq_nil_iff, List.take_eq_nil_iff]
             constructor
             ·rintro (h | h)
              ·exact h
              ·rw [h] at hlt; simp at hlt
             ·exact .inl
            rw [e9, ziz]
            by_cases hk0 : k = 0
            ·rw [if_pos (e8.2 hk0), if_pos hk0]
             apply zb2
             rw [zb6, hX, hY, zb0, zb0, zb0]
             rfl
            ·rw [if_neg (fun h => hk0 (e8.1 h)), if_neg hk0]
             apply zb2
             rw [zb6, zb6, hX, hY, zb0, zb0, zb0, List.append_assoc]
             rfl
           have hs1 : ¬ (9223372036854775807 < X.size + (⟨#[46]⟩ : ByteArray).size) := by
            rw [show (⟨#[46]⟩ : ByteArray).size = 1 from rfl]; omega
           have hs2 : ¬ (9223372036854775807 < (X ++ ⟨#[46]⟩).size + Y.size) := by
            rw [ByteArray.size_append, show (⟨#[46]⟩ : ByteArray).size = 1 from rfl]; omega
           have hs3 : ¬ (9223372036854775807 < X.size + Y.size) := by omega
           clear hY hX hok2 hJ0 hJl hy1 h0 htk hPe hxz
           subst hA
           by_cases hk0 : 0 < k
           ·have hd9 : decide (0 < k) = true := jT hk0
            have hd8 : decide ((0 : Int) < (k : Int)) = true := jT (by omega)
            rw [if_neg (by omega)] at HN
            clear hk0
            go_wp2_with fail
            refine (cT _).mono ?_
            rintro e w4 ⟨rfl, hbn⟩
            replace hr : zgo w4 w.heap.size hz := Row.below hr hbn hr.lt
            replace hh9 := hh9.below' hbn hB3'
            replace hB3' := Nat.le_trans hB3' hbn.size
            replace hb := hb.trans (hbn.mono hb.size)
            clear hbn
            go_wp2
            go_roundw
            case rel => exact ⟨k + 1, hlt, by go_num, by rw [HN.out], HOK2, hh9, hB3', hr, hb⟩
            case measure => simp [intOf]; omega
           ·have hd9 : decide (0 < k) = false := jF hk0
            have hd8 : decide ((0 : Int) < (k : Int)) = false := jF (by omega)
            rw [if_pos (by omega)] at HN
            clear hk0
            go_wp2_with fail
            refine (cT _).mono ?_
            rintro e w4 ⟨rfl, hbn⟩
            replace hr : zgo w4 w.heap.size hz := Row.below hr hbn hr.lt
            replace hh9 := hh9.below' hbn hB3'
            replace hB3' := Nat.le_trans hB3' hbn.size
            replace hb := hb.trans (hbn.mono hb.size)
            clear hbn
            go_wp2
            go_roundw
            case rel => exact ⟨k + 1, hlt, by go_num, by rw [HN.out], HOK2, hh9, hB3', hr, hb⟩
            case measure => simp [intOf]; omega
          ·have e9 : (if (zg6 P).1 = 0 then jN (zg6 P).2 else ((zg6 P).1, hv0)) = ((toA P[k]).1, hv0) := by
            have e7 := zi3 (P.take k) P[k] (P.drop (k + 1)) HOK.out h0
            rw [<- hPe] at e7
            rw [e7, if_neg h0]
           have hRe := HRN.out
           rw [e9] at hRe
           obtain ⟨E1, hE1⟩ : ∃ n, n = (toA P[k]).1 := ⟨_, rfl⟩
           rw [zb0, <- hE1] at cT
           rw [<- hE1] at h0 hRe
           have HRE := jL hRe
           clear hRe
           generalize bs (toA P[k]).2 = Y at *
           generalize bs (z2v 46 (nmB (P.take k))) = X at *
           have hq : ((E1 : Int) == 0) = false := by rw [beq_eq_false_iff_ne]; omega
           have hq2 : ((E1 : Int) != 0) = true := by rw [bne, hq]; rfl
           clear hE1 h0 e9 htk hPe hxz
           subst hA
           go_wp2_with fail
           refine (cT _).mono ?_
           rintro e w4 ⟨rfl, hbn⟩
           replace hr : zgo w4 w.heap.size hz := Row.below hr hbn hr.lt
           replace hb := hb.trans (hbn.mono hb.size)
           clear hbn
           go_wp2_with (refine zea rfl rfl _ _ rfl w.heap.size (by exact rfl) hz (by exact rfl) _ hr rfl rfl (zgl _ _ _ _) ?_; intro wz hrz hgz)
           exact zgr 2 3 rfl w.heap.size rfl hz hrz rfl _ rfl rfl ⟨by rw [HRE.out]; rfl, zau hb hgz jH jH⟩
         ·obtain rfl : k = P.length := by omega
          have hall : ∀ x ∈ P, (toA x).1 = 0 := by have := HOK.out; rwa [List.take_length] at this
          have hJ0 := zi5 (nmB P) (zi4 hall)
          have hJl : (nmB P).length <= 1025 := by unfold nmB; rw [List.length_map]; have := HP1.out; omega
          have hRe := HRN.out
          rw [zi2 P hall] at hRe
          simp only [if_true] at hRe
          rw [List.take_length]
          have cM := fun W => zo9 (bs (z2v 46 (nmB P))) W (by rw [zb5]; omega)
          have hz1 : (bs (z2v 46 (nmB P))).size = (z2v 46 (nmB P)).length := zb5 _
          rw [zb0] at cM
          have hD : (hvD (z2v 46 (nmB P))).cells = hc 1 (bs (z2v 46 (nmB P))) 0 z8 := rfl
          unfold jN at hRe
          by_cases h9 : 253 < (z2v 46 (nmB P)).length
          ·rw [if_pos h9] at hRe
           have HRE := jL hRe
           clear hRe
           have hd9 : decide ((253 : Int) < ((bs (z2v 46 (nmB P))).size : Int)) = true := jT (by omega)
           generalize bs (z2v 46 (nmB P)) = X at *
           clear hJ0 hJl cM hz1 hD h9 hall HOK hk hlt
           go_wp2_with (refine zea rfl rfl _ _ rfl w.heap.size (by exact rfl) hz (by exact rfl) _ hr rfl rfl (zgl _ _ _ _) ?_; intro wz hrz hgz)
           exact zgr 2 3 rfl w.heap.size rfl hz hrz rfl _ rfl rfl ⟨by rw [HRE.out]; rfl, zau hb hgz jH jH⟩
          ·rw [if_neg h9] at hRe
           have hd9 : decide ((253 : Int) < ((bs (z2v 46 (nmB P))).size : Int)) = false := jF (by omega)
           cases hq : zpn (z2v 46 (nmB P)) with
           | true =>
             rw [hq] at cM
             rw [if_pos hq] at hRe
             have HRE := jL hRe
             clear hRe
             generalize bs (z2v 46 (nmB P)) = X at *
             clear hJ0 hJl hz1 hD h9 hall HOK hk hlt hq
             go_wp2_with fail
             refine (cM _).mono ?_
             rintro e w4 ⟨rfl, hbn⟩
             replace hr : zgo w4 w.heap.size hz := Row.below hr hbn hr.lt
             replace hb := hb.trans (hbn.mono hb.size)
             clear hbn
             go_wp2_with (refine zea rfl rfl _ _ rfl w.heap.size (by exact rfl) hz (by exact rfl) _ hr rfl rfl (zgl _ _ _ _) ?_; intro wz hrz hgz)
             exact zgr 2 3 rfl w.heap.size rfl hz hrz rfl _ rfl rfl ⟨by rw [HRE.out]; rfl, zau hb hgz jH jH⟩
           | false =>
             rw [hq] at cM
             rw [if_neg (by rw [hq]; simp)] at hRe
             have HRE : Hid (R.2.cells = hc 1 (bs (z2v 46 (nmB P))) 0 z8 /\ R.1 = 0) := jL (by rw [hRe]; exact ⟨hD, rfl⟩)
             clear hRe
             generalize bs (z2v 46 (nmB P)) = X at *
             clear hJ0 hJl hz1 hD h9 hall HOK hk hlt hq
             go_wp2_with fail
             refine (cM _).mono ?_
             rintro e w4 ⟨rfl, hbn⟩
             replace hr : zgo w4 w.heap.size hz := Row.below hr hbn hr.lt
             replace hb := hb.trans (hbn.mono hb.size)
             clear hbn
             go_wp2_with (refine zea rfl rfl _ _ rfl w.heap.size (by exact rfl) (hc 1 X 0 z8) (by exact rfl) _ hr rfl rfl (zgl _ _ _ _) ?_; intro wz hrz hgz)
             exact zgr 2 3 rfl w.heap.size rfl (hc 1 X 0 z8) hrz rfl _ rfl rfl ⟨by rw [HRE.out.1, HRE.out.2]; rfl, zau hb hgz jH jH⟩
theorem zjf (s : ByteArray) (w : World) (hs : s.size <= 100000000) : Calls Tryz.prog 61 #[.string s] w (zed w (zhm (ls s))) := by
 by_cases h1 : 1024 < s.size
 ·exact zjc s w hs h1
 ·by_cases hh : (ls s).head? = some 91
  ·exact zjd s w hs h1 hh
  ·exact zje s w hs h1 hh
end

end Go.Proofs.YtekaljeicfjkjaaGreatDoor
