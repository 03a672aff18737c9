/-
How a reader from left to right finds the numbers of an address: no program.
Digits of a number in a base: plain facts, no program.
IPv6 addresses in plain words: no program.
-/
import Derived.Test.YtekaljeicfjkjaaGreatDoorJ02
import Derived.Lib.Strings
import Derived.Lib.LastIndexByte
namespace Go.Proofs.YtekaljeicfjkjaaGreatDoor
section
open Go.RowKit
set_option maxHeartbeats 16000000
def zq0 (l : List UInt8) : List UInt8 := if l.getLast? = some 46 then l.dropLast else l
theorem zq1 (l : List UInt8) : zq0 (l ++ [46]) = l := by unfold zq0; simp
theorem zq2 (l : List UInt8) : (∃ m, l = m ++ [46]) \/ (l.getLast? ≠ some 46 /\ zq0 l = l) := by
 by_cases h : l.getLast? = some 46
 ·left
  obtain ⟨m, hm⟩ := List.getLast?_eq_some_iff.1 h
  exact ⟨m, hm⟩
 ·right
  exact ⟨h, by unfold zq0; rw [if_neg h]⟩
theorem zq3 (l : List UInt8) : Lib.trimSuffix l [46] = zq0 l := by
 unfold Lib.trimSuffix Lib.hasSuffix
 rcases zq2 l with ⟨m, rfl⟩ | ⟨h, hu⟩
 ·rw [zq1]
  have : ([46] : List UInt8).isSuffixOf (m ++ [46]) = true := by
   rw [List.isSuffixOf_iff_suffix]
   exact ⟨m, rfl⟩
  rw [if_pos this]
  simp
 ·rw [hu]
  have : ¬ ([46] : List UInt8).isSuffixOf l = true := by
   rw [List.isSuffixOf_iff_suffix]
   rintro ⟨m, rfl⟩
   exact h (by simp)
  rw [if_neg this]
theorem zq4 (c : UInt8) : ∀ p : List (List UInt8), 1 < p.length -> p.getLast? = some [] -> (z2v c p).getLast? = some c
 | [], h, _ => by simp at h
 | [_], h, _ => by simp at h
 | [a, b], _, h => by
   simp at h
   subst h
   simp [z2v]
 | a :: b :: d :: r, _, h => by
   have h1 := zq4 c (b :: d :: r) (by simp) (by simpa using h)
   rw [z2v, List.getLast?_append]
   rw [List.getLast?_cons, h1]
   rfl
theorem zq5 (l : List UInt8) : zpg l = z2m 46 (zq0 l) := by
 rcases zq2 l with ⟨m, rfl⟩ | ⟨h, hu⟩
 ·rw [zqe, zq1]
 ·rw [hu]
  unfold zpg
  rw [if_neg]
  rintro ⟨h1, h2⟩
  have := zq4 46 _ h1 h2
  rw [z2y] at this
  exact h this
def pd (b : UInt8) : Nat := min (zph b) 16
theorem zq6 (c : UInt8) (b : Nat) (hb : b <= 16) : pd c < b ↔ zph c < b := by unfold pd; omega
def sfx : Option (List UInt8) -> List UInt8
 | none => []
 | some r => 46 :: r
def zq7 (b : Nat) : List UInt8 -> Nat -> Option (Nat × Option (List UInt8))
 | [], n => some (n, none)
 | c :: r, n => if c = 46 then some (n, some r) else if zph c < b then zq7 b r (min (b * n + zph c) 4294967296) else none
theorem zq8 (b v d : Nat) (hb : 1 <= b) : min (b * min v 4294967296 + d) 4294967296 = min (v * b + d) 4294967296 := by
 by_cases h : v <= 4294967296
 ·rw [Nat.min_eq_left h, Nat.mul_comm]
 ·rw [Nat.min_eq_right (show 4294967296 <= v by omega)]
  have h1 : 1 * 4294967296 <= b * 4294967296 := Nat.mul_le_mul_right _ hb
  have h2 : 4294967296 * 1 <= v * b := Nat.mul_le_mul (by omega) hb
  omega
theorem zq9 (b : Nat) (hb : 1 <= b) (o : Option (List UInt8)) : ∀ (x : List UInt8) (v : Nat), noB 46 x ->
 zq7 b (x ++ sfx o) (min v 4294967296) = if x.all (fun c => decide (zph c < b)) = true then some (min (zpi b v x) 4294967296, o) else none
 | [], v, _ => by
   cases o with
   | none => rfl
   | some r => simp [sfx, zq7, zpi]
 | c :: x, v, h => by
   have hc : c ≠ 46 := h c (by simp)
   rw [List.cons_append, zq7, if_neg hc, List.all_cons]
   by_cases hd : zph c < b
   ·rw [if_pos hd, zq8 b v _ hb, zq9 b hb o x _ (fun y hy => h y (by simp [hy])), zpi]
    simp [hd]
   ·rw [if_neg hd]
    simp [hd]
def zra (l : List UInt8) : Bool := Lib.hasPrefix l [48, 120] || Lib.hasPrefix l [48, 88]
theorem zrb (l : List UInt8) : zra l = true ↔ ∃ b r, l = 48 :: b :: r /\ (b = 120 \/ b = 88) := by
 unfold zra Lib.hasPrefix
 rw [Bool.or_eq_true, List.isPrefixOf_iff_prefix, List.isPrefixOf_iff_prefix]
 constructor
 ·rintro (⟨r, rfl⟩ | ⟨r, rfl⟩)
  ·exact ⟨120, r, rfl, .inl rfl⟩
  ·exact ⟨88, r, rfl, .inr rfl⟩
 ·rintro ⟨b, r, rfl, rfl | rfl⟩
  ·exact .inl ⟨r, rfl⟩
  ·exact .inr ⟨r, rfl⟩
def zrc (l : List UInt8) : Nat × Nat := if zra l = true then (16, 2) else if l.head? = some 48 then (8, 1) else (10, 0)
theorem zrd (o : Option (List UInt8)) (x : List UInt8) (hx : x ≠ []) (hn : noB 46 x) : ∃ b y, (zrc (x ++ sfx o)).1 = b /\ (x ++ sfx o).drop (zrc (x ++ sfx o)).2 = y ++ sfx o /\ 1 <= b /\ noB 46 y /\
 zpl x = if y.all (fun c => decide (zph c < b)) = true then some (zpi b 0 y) else none := by
 unfold zrc
 by_cases hh : zra (x ++ sfx o) = true
 ·rw [if_pos hh]
  obtain ⟨b, r, e, hb⟩ := (zrb _).1 hh
  cases x with
  | nil => exact absurd rfl hx
  | cons c x =>
    rw [List.cons_append] at e
    injection e with e1 e2
    subst e1
    cases x with
    | nil =>
      rw [List.nil_append] at e2
      cases o with
      | none => cases e2
      | some r' =>
        injection e2 with e3 _
        subst e3
        simp at hb
    | cons d x =>
      rw [List.cons_append] at e2
      injection e2 with e3 e4
      subst e3
      refine ⟨16, x, rfl, rfl, by omega, fun y hy => hn y (by simp [hy]), ?_⟩
      unfold zpl
      rw [if_neg (by simp), zpy d x hb]
 ·rw [if_neg hh]
  cases x with
  | nil => exact absurd rfl hx
  | cons c x =>
    by_cases hc : c = 48
    ·subst hc
     rw [if_pos (by simp)]
     refine ⟨8, x, rfl, rfl, by omega, fun y hy => hn y (by simp [hy]), ?_⟩
     cases x with
     | nil =>
       unfold zpl
       rw [if_neg (by simp), zpx _ (.inr (by simp))]
       decide
     | cons d x =>
       have hd : ¬ (d = 120 \/ d = 88) := fun hd => hh ((zrb _).2 ⟨d, x ++ sfx o, by simp, hd⟩)
       unfold zpl
       rw [if_neg (by simp), zpz d x hd]
    ·rw [if_neg (by simp [hc])]
     refine ⟨10, c :: x, rfl, rfl, by omega, hn, ?_⟩
     unfold zpl
     rw [if_neg (by simp), zpx _ (.inl (by simp [hc]))]
def pnS : Nat -> List UInt8 -> Nat -> Option Nat
 | 0, _, _ => none
 | m + 1, t, a => if t = [] \/ t.head? = some 46 then none else
   match zq7 (zrc t).1 (t.drop (zrc t).2) 0 with
   | none => none
   | some (n, none) => if n < 256 ^ (m + 1) then some (a * 256 ^ (m + 1) + n) else none
   | some (n, some r) => if n <= 255 then pnS m r (a * 256 + n) else none
def pnR : Nat -> List (List UInt8) -> Nat -> Option Nat
 | 0, _, _ => none
 | _ + 1, [], _ => none
 | m + 1, [x], a => match zpl x with
   | none => none
   | some n => if n < 256 ^ (m + 1) then some (a * 256 ^ (m + 1) + n) else none
 | m + 1, x :: y :: r, a => match zpl x with
   | none => none
   | some n => if n <= 255 then pnR m (y :: r) (a * 256 + n) else none
theorem zre : ∀ t : List UInt8, ∃ x o, t = x ++ sfx o /\ noB 46 x
 | [] => ⟨[], none, rfl, fun _ h => by simp at h⟩
 | c :: t => by
   by_cases hc : c = 46
   ·exact ⟨[], some t, by rw [hc]; rfl, fun _ h => by simp at h⟩
   ·obtain ⟨x, o, e, hn⟩ := zre t
    refine ⟨c :: x, o, by rw [e]; rfl, ?_⟩
    intro y hy
    simp at hy
    rcases hy with rfl | hy
    ·exact hc
    ·exact hn y hy
theorem zrf (m : Nat) (h : m + 1 <= 4) : 256 ^ (m + 1) <= 4294967296 := by
 have : m = 0 \/ m = 1 \/ m = 2 \/ m = 3 := by omega
 rcases this with rfl | rfl | rfl | rfl <;> decide
theorem zrg : ∀ (m : Nat) (t : List UInt8) (a : Nat), m <= 4 -> pnS m t a = pnR m (z2m 46 t) a
 | 0, _, _, _ => rfl
 | m + 1, t, a, hm => by
   obtain ⟨x, o, rfl, hn⟩ := zre t
   have hne : ∀ r, ∃ y ys, z2m 46 r = y :: ys := fun r => by
    cases h : z2m 46 r with
    | nil => exact absurd h (z2n 46 r [])
    | cons y ys => exact ⟨y, ys, rfl⟩
   by_cases hx : x = []
   ·subst hx
    have hN : zpl [] = none := rfl
    cases o with
    | none =>
      rw [pnS, if_pos (.inl rfl), z2u 46 _ (fun _ h => by simp [sfx] at h)]
      rw [show ([] ++ sfx none : List UInt8) = [] from rfl, pnR, hN]
    | some r =>
      rw [pnS, if_pos (.inr rfl), show ([] ++ sfx (some r) : List UInt8) = [] ++ 46 :: r from rfl, z2t 46 [] r hn]
      obtain ⟨y, ys, e⟩ := hne r
      rw [e, pnR, hN]
   ·obtain ⟨b, y, e1, e2, hb, hy, e3⟩ := zrd o x hx hn
    have hs := zq9 b hb o y 0 hy
    rw [show min 0 4294967296 = 0 from rfl] at hs
    have h0 : ¬ (x ++ sfx o = [] \/ (x ++ sfx o).head? = some 46) := by
     cases x with
     | nil => exact absurd rfl hx
     | cons c x =>
       have := hn c (by simp)
       simp [this]
    rw [pnS, if_neg h0, e1, e2, hs]
    have hp := zrf m hm
    have hp1 : 256 <= 256 ^ (m + 1) := by rw [Nat.pow_succ]; have := Nat.pos_of_ne_zero (show 256 ^ m ≠ 0 by simp); omega
    cases o with
    | none =>
      rw [show x ++ sfx none = x from List.append_nil x, z2u 46 x hn, pnR, e3]
      by_cases ha : y.all (fun c => decide (zph c < b)) = true
      ·rw [if_pos ha, if_pos ha]
       show (if min (zpi b 0 y) 4294967296 < 256 ^ (m + 1) then some (a * 256 ^ (m + 1) + min (zpi b 0 y) 4294967296) else none) = if zpi b 0 y < 256 ^ (m + 1) then some (a * 256 ^ (m + 1) + zpi b 0 y) else none
       by_cases hv : zpi b 0 y < 256 ^ (m + 1)
       ·rw [if_pos hv, Nat.min_eq_left (by omega), if_pos hv]
       ·rw [if_neg hv, if_neg (by omega)]
      ·rw [if_neg ha, if_neg ha]
    | some r =>
      rw [show x ++ sfx (some r) = x ++ 46 :: r from rfl, z2t 46 x r hn]
      obtain ⟨z, zs, e⟩ := hne r
      have ih := zrg m r (a * 256 + zpi b 0 y) (by omega)
      rw [e] at ih ⊢
      rw [pnR, e3]
      by_cases ha : y.all (fun c => decide (zph c < b)) = true
      ·rw [if_pos ha, if_pos ha]
       show (if min (zpi b 0 y) 4294967296 <= 255 then pnS m r (a * 256 + min (zpi b 0 y) 4294967296) else none) = if zpi b 0 y <= 255 then pnR m (z :: zs) (a * 256 + zpi b 0 y) else none
       by_cases hv : zpi b 0 y <= 255
       ·rw [if_pos hv, Nat.min_eq_left (by omega), if_pos hv, ih]
       ·rw [if_neg hv, if_neg (by omega)]
      ·rw [if_neg ha, if_neg ha]
theorem zrh : ∀ (p : List (List UInt8)) (i a : Nat), p ≠ [] -> i <= 4 -> (if 4 < i + p.length then none else zpo p i (a * 256 ^ (4 - i))) = pnR (4 - i) p a
 | [], _, _, h, _ => absurd rfl h
 | [x], i, a, _, hi => by
   by_cases h4 : i = 4
   ·subst h4
    rfl
   ·obtain ⟨m, hm⟩ : ∃ m, 4 - i = m + 1 := ⟨3 - i, by omega⟩
    rw [if_neg (by simp; omega), hm, zpo, pnR, hm]
    all_goals (cases zpl x <;> rfl)
 | x :: y :: r, i, a, _, hi => by
   by_cases h4 : i = 4
   ·subst h4
    rw [if_pos (by simp), Nat.sub_self, pnR]
   ·obtain ⟨m, hm⟩ : ∃ m, 4 - i = m + 1 := ⟨3 - i, by omega⟩
    have hm3 : 3 - i = m := by omega
    have hm4 : 4 - (i + 1) = m := by omega
    rw [hm, zpo, pnR, hm3]
    cases hx : zpl x with
    | none => simp
    | some n =>
      show (if 4 < i + (x :: y :: r).length then none else if n <= 255 then zpo (y :: r) (i + 1) (a * 256 ^ (m + 1) + n * 256 ^ m) else none) = if n <= 255 then pnR m (y :: r) (a * 256 + n) else none
      by_cases hn : n <= 255
      ·have ih := zrh (y :: r) (i + 1) (a * 256 + n) (by simp) (by omega)
       rw [hm4] at ih
       rw [if_pos hn, if_pos hn, <- ih, show a * 256 ^ (m + 1) + n * 256 ^ m = (a * 256 + n) * 256 ^ m by rw [Nat.pow_succ, Nat.add_mul, Nat.mul_assoc, Nat.mul_comm 256]]
       have : i + (x :: y :: r).length = i + 1 + (y :: r).length := by simp; omega
       rw [this]
      ·rw [if_neg hn, if_neg hn]
       simp
theorem zri (l : List UInt8) : pnL l = pnS 4 (zq0 l) 0 := by
 rw [zrg 4 _ 0 jH, <- zq5]
 have hne : zpg l ≠ [] := by rw [zq5]; exact z2n 46 _ []
 have := zrh (zpg l) 0 0 hne (by omega)
 rw [Nat.zero_add, Nat.zero_mul] at this
 exact this
theorem zrj : ∀ (m : Nat) (t : List UInt8) (a v : Nat), m <= 4 -> a < 256 ^ (4 - m) -> pnS m t a = some v -> v < 4294967296
 | 0, _, _, _, _, _, h => by cases h
 | m + 1, t, a, v, hm, ha, h => by
   rw [pnS] at h
   split at h
   ·cases h
   ·split at h
    ·cases h
    ·rename_i n _
     split at h
     ·rename_i hn
      injection h with h
      have e : 256 ^ (4 - (m + 1)) * 256 ^ (m + 1) = 4294967296 := by rw [<- Nat.pow_add, show 4 - (m + 1) + (m + 1) = 4 by omega]
      have : (a + 1) * 256 ^ (m + 1) <= 256 ^ (4 - (m + 1)) * 256 ^ (m + 1) := Nat.mul_le_mul_right _ ha
      rw [e, Nat.add_mul] at this
      omega
     ·cases h
    ·rename_i n r _
     split at h
     ·refine zrj m r _ v (by omega) ?_ h
      have e : 256 ^ (4 - m) = 256 ^ (4 - (m + 1)) * 256 := by rw [show 4 - m = 4 - (m + 1) + 1 by omega, Nat.pow_succ]
      rw [e]
      have : (a + 1) * 256 <= 256 ^ (4 - (m + 1)) * 256 := Nat.mul_le_mul_right _ ha
      omega
     ·cases h
theorem zrk {l : List UInt8} {v : Nat} (h : pnL l = some v) : v < 4294967296 := by
 rw [zri] at h
 exact zrj 4 _ 0 v jH (by decide) h
theorem zrl (x : List UInt8) (hn : noB 46 x) : ∀ (p cur : List UInt8), (z2l 46 (p ++ 46 :: x) cur).getLastD [] = x
 | [], cur => by
   rw [List.nil_append, z2l, if_pos rfl, z2s 46 x [] hn]
   simp
 | c :: p, cur => by
   rw [List.cons_append, z2l]
   split
   ·have := zrl x hn p []
    cases h : z2l 46 (p ++ 46 :: x) [] with
    | nil => exact absurd h (z2n 46 _ _)
    | cons a q => rw [h] at this; simpa [List.getLastD] using this
   ·exact zrl x hn p _
theorem zrm (t : List UInt8) (h : noB 46 t) : (z2m 46 t).getLastD [] = t := by rw [z2u 46 t h]; rfl
theorem zrn (t : List UInt8) (i : Nat) (hi : i < t.length) (h : t[i] = 46) (hn : noB 46 (t.drop (i + 1))) : (z2m 46 t).getLastD [] = t.drop (i + 1) := by
 have e : t = t.take i ++ 46 :: t.drop (i + 1) := by
  rw [<- h, List.getElem_cons_drop, List.take_append_drop]
 have := zrl (t.drop (i + 1)) hn (t.take i) []
 rw [<- e] at this
 exact this
theorem zro (s : ByteArray) : ∃ i : Nat, Lib.lastIndexByte s 46 + 1 = (i : Int) /\ i <= s.size /\ (z2m 46 (ls s)).getLastD [] = (ls s).drop i := by
 have hg : ∀ j (hj : j < s.size), ((s.data[j]!).toNat : Int) = 46 ↔ (ls s)[j]'(by rw [zb4]; exact hj) = 46 := by
  intro j hj
  have hj' : j < s.data.size := hj
  have e : s.data[j]! = (ls s)[j]'(by rw [zb4]; exact hj) := by
   rw [getElem!_pos s.data j hj']
   rfl
  rw [e]
  constructor
  ·intro h
   exact UInt8.toNat_inj.1 (by rw [show (46 : UInt8).toNat = 46 from rfl]; omega)
  ·intro h
   rw [h]
   rfl
 rcases Lib.lastIndexByte_spec s 46 with ⟨e, hn⟩ | ⟨i, hi, e, hc, hn⟩
 ·refine ⟨0, by omega, Nat.zero_le _, ?_⟩
  rw [List.drop_zero]
  refine zrm _ ?_
  intro c hc h46
  obtain ⟨j, hj, rfl⟩ := List.getElem_of_mem hc
  rw [zb4] at hj
  exact hn j hj ((hg j hj).2 h46)
 ·refine ⟨i + 1, by omega, by omega, ?_⟩
  refine zrn _ i (by rw [zb4]; exact hi) ((hg i hi).1 hc) ?_
  intro c hc h46
  obtain ⟨j, hj, rfl⟩ := List.getElem_of_mem hc
  rw [List.length_drop, zb4] at hj
  rw [List.getElem_drop] at h46
  exact hn (i + 1 + j) (by omega) (by omega) ((hg _ (by omega)).2 h46)
theorem zrp (c : UInt8) : zbe c = decide (zph c < 10) := by
 by_cases h : zbe c = true
 ·rw [h, jT (zpu c h).2]
 ·have h2 : ¬ (48 <= c.toNat /\ c.toNat <= 57) := fun k => h ((z1w c).2 (by omega))
  rw [Bool.not_eq_true] at h
  rw [h]
  symm
  refine jF ?_
  unfold zph
  rw [if_neg h2]
  split
  ·omega
  ·split <;> omega
theorem zrq (x : List UInt8) : zpm x = if zra x = true then (x.drop 2).all (fun c => decide (zph c < 16)) else (!x.isEmpty && x.all (fun c => decide (zph c < 10))) := by
 have hall : x.all zbe = x.all (fun c => decide (zph c < 10)) := by
  congr 1
  funext c
  exact zrp c
 by_cases hh : zra x = true
 ·rw [if_pos hh]
  obtain ⟨b, r, rfl, hb⟩ := (zrb _).1 hh
  have hd : zbe b = false := by rcases hb with rfl | rfl <;> decide
  unfold zpm
  have h1 : (48 :: b :: r).all zbe = false := by simp [hd]
  have h2 : (((48 :: b :: r).getD 1 0 == 120) || ((48 :: b :: r).getD 1 0 == 88)) = true := by
   rcases hb with rfl | rfl <;> rfl
  have h3 : zpl (48 :: b :: r) = if r.all (fun c => decide (zph c < 16)) = true then some (zpi 16 0 r) else none := by
   unfold zpl
   rw [if_neg (by simp), zpy b r hb]
  rw [h1, h2, h3, Bool.and_true, Bool.false_and, Bool.false_or]
  by_cases ha : r.all (fun c => decide (zph c < 16)) = true
  ·rw [if_pos ha]
   simpa using ha
  ·rw [if_neg ha]
   simpa using ha
 ·rw [if_neg hh]
  unfold zpm
  rw [hall, Bool.and_comm (!x.isEmpty)]
  have h2 : ((zpl x).isSome && decide (2 <= x.length) && (x.getD 1 0 == 120 || x.getD 1 0 == 88)) = false := by
   match x with
   | [] => rfl
   | [c] => simp
   | c :: b :: r =>
     by_cases hb : b = 120 \/ b = 88
     ·have hc : c ≠ 48 := fun h => hh ((zrb _).2 ⟨b, r, by rw [h], hb⟩)
      have hd : ¬ zph b < 10 := by rcases hb with rfl | rfl <;> decide
      have : zpl (c :: b :: r) = none := by
       unfold zpl
       rw [if_neg (by simp), zpx _ (.inl (by simp [hc])), if_neg]
       simp [hd]
      rw [this]
      rfl
     ·simp only [not_or] at hb
      have : ((c :: b :: r).getD 1 0 == 120 || (c :: b :: r).getD 1 0 == 88) = false := by simp [hb.1, hb.2]
      rw [this, Bool.and_false]
  rw [h2, Bool.or_false]
theorem zrr (l : List UInt8) : zpn l = zpm ((z2m 46 (zq0 l)).getLastD []) := by
 unfold zpn
 rw [zq5]
theorem zrs (l : List UInt8) : zpr l = match pnL l with
 | none => none
 | some v => if zps v = l then some v else none := by
 cases hp : pnL l with
 | none =>
   cases hq : zpr l with
   | none => rfl
   | some v =>
     obtain ⟨hv, rfl⟩ := zqg hq
     rw [zqb v hv] at hp
     cases hp
 | some v =>
   show _ = if zps v = l then some v else none
   by_cases hf : zps v = l
   ·rw [if_pos hf]
    have := zp8 v (zrk hp)
    rw [hf] at this
    exact this
   ·rw [if_neg hf]
    cases hq : zpr l with
    | none => rfl
    | some u =>
      obtain ⟨hu, rfl⟩ := zqg hq
      rw [zqb u hu] at hp
      injection hp with hp
      subst hp
      exact absurd rfl hf
def zrt (v : Nat) : Nat -> List UInt8
 | 0 => []
 | i + 1 => zrt v i ++ ((if i = 0 then [] else [46]) ++ Lib.decDigits (v / 256 ^ (3 - i) % 256))
theorem zru (v : Nat) (h : v < 4294967296) : zrt v 4 = zps v := by
 unfold zps
 simp only [zrt, z2v]
 rw [show v / 256 ^ (3 - 0) % 256 = v / 16777216 by rw [show 256 ^ (3 - 0) = 16777216 from rfl]; omega, show 256 ^ (3 - 1) = 65536 from rfl, show 256 ^ (3 - 2) = 256 from rfl, show v / 256 ^ (3 - 3) % 256 = v % 256 by simp]
 simp
theorem zrv (u : Nat) (h : u < 256) : (Lib.decDigits u).length <= 3 := by
 by_cases h1 : u < 10
 ·rw [Lib.decDigits_one h1]; simp
 ·rw [z1y u h1, List.length_append]
  by_cases h2 : u / 10 < 10
  ·rw [Lib.decDigits_one h2]; simp
  ·rw [z1y _ h2, List.length_append, Lib.decDigits_one (by omega)]; simp
theorem zrw (v : Nat) : ∀ i, (zrt v i).length <= 4 * i
 | 0 => by simp [zrt]
 | i + 1 => by
   have h1 := zrw v i
   have h2 := zrv (v / 256 ^ (3 - i) % 256) (by omega)
   rw [zrt, List.length_append, List.length_append]
   split <;> simp <;> omega
end

section
open Go.RowKit
set_option maxHeartbeats 16000000
def zda (d : Nat) : UInt8 := if d < 10 then UInt8.ofNat (48 + d) else UInt8.ofNat (87 + d)
theorem zdb : ∀ d : Fin 16, zph (zda d.val) = d.val /\ zda d.val ≠ 46 /\ zbf (zda d.val) = zda d.val /\ zda d.val ≠ 120 /\ zda d.val ≠ 88 /\ (zda d.val = 48 -> d.val = 0) := by decide +kernel
theorem zdc {d : Nat} (h : d < 16) : zph (zda d) = d /\ zda d ≠ 46 /\ zbf (zda d) = zda d /\ zda d ≠ 120 /\ zda d ≠ 88 /\ (zda d = 48 -> d = 0) := zdb ⟨d, h⟩
def zdd (b : Nat) : Nat -> Nat -> List UInt8
 | 0, m => [zda (m % b)]
 | f + 1, m => if m < b then [zda m] else zdd b f (m / b) ++ [zda (m % b)]
def zde (b m : Nat) : List UInt8 := zdd b 40 m
theorem zdf (b : Nat) (hb : 2 <= b) : ∀ f m, m < 2 ^ f -> zdd b (f + 1) m = zdd b f m
 | 0, m, h => by
   have hm : m = 0 := by simpa using h
   subst hm
   unfold zdd
   rw [if_pos (by omega), Nat.zero_mod]
 | f + 1, m, h => by
   unfold zdd
   by_cases hm : m < b
   ·rw [if_pos hm, if_pos hm]
   ·rw [if_neg hm, if_neg hm, zdf b hb f (m / b)]
    have : m / b <= m / 2 := Nat.div_le_div_left hb (by omega)
    rw [Nat.pow_succ] at h
    omega
theorem zdg {b m : Nat} (h : m < b) : zde b m = [zda m] := by
 unfold zde zdd
 rw [if_pos h]
theorem zdh {b m : Nat} (hb : 2 <= b) (hm : m < 1099511627776) (h : ¬ m < b) : zde b m = zde b (m / b) ++ [zda (m % b)] := by
 have h1 : zde b m = zdd b 39 (m / b) ++ [zda (m % b)] := by
  show zdd b (39 + 1) m = _
  rw [zdd, if_neg h]
 have h2 : zdd b 40 (m / b) = zdd b 39 (m / b) := zdf b hb 39 (m / b) (by
  have : m / b <= m / 2 := Nat.div_le_div_left hb (by omega)
  have e : (2 : Nat) ^ 39 = 549755813888 := by decide
  omega)
 rw [h1]
 unfold zde
 rw [h2]
theorem zdi {b : Nat} (hb : 2 <= b) (C : Nat -> List UInt8 -> Prop) (h0 : ∀ m, m < b -> C m [zda m]) (h1 : ∀ m, m < 1099511627776 -> ¬ m < b -> C (m / b) (zde b (m / b)) -> C m (zde b (m / b) ++ [zda (m % b)])) :
 ∀ m, m < 1099511627776 -> C m (zde b m) := by
 intro m
 induction m using Nat.strongRecOn with
 | ind m ih =>
   intro hm
   by_cases h : m < b
   ·rw [zdg h]; exact h0 m h
   ·rw [zdh hb hm h]
    have hlt : m / b < m := Nat.div_lt_self (by omega) hb
    exact h1 m hm h (ih (m / b) hlt (by omega))
theorem zdj {b : Nat} (hb : 2 <= b) (m : Nat) (hm : m < 1099511627776) : zde b m ≠ [] :=
 zdi hb (fun _ l => l ≠ []) (fun _ _ => by simp) (fun _ _ _ _ => by simp) m hm
theorem zdk {b : Nat} (hb : 2 <= b) (hb2 : b <= 16) (m : Nat) (hm : m < 1099511627776) : zpi b 0 (zde b m) = m := by
 refine zdi hb (fun m l => zpi b 0 l = m) (fun m h => ?_) (fun m _ h ih => ?_) m hm
 ·simp [zpi, (zdc (show m < 16 by omega)).1]
 ·have hlt : m % b < b := Nat.mod_lt _ (by omega)
  rw [zpj, ih, zpi, zpi, (zdc (show m % b < 16 by omega)).1]
  exact Nat.div_add_mod' m b
theorem zdl {b : Nat} (hb : 2 <= b) (hb2 : b <= 16) (p : UInt8 -> Bool) (hp : ∀ d, d < b -> p (zda d) = true) (m : Nat) (hm : m < 1099511627776) : (zde b m).all p = true := by
 refine zdi hb (fun m l => l.all p = true) (fun m h => ?_) (fun m _ h ih => ?_) m hm
 ·simp [hp m h]
 ·rw [List.all_append, ih]; simp [hp (m % b) (Nat.mod_lt _ (by omega))]
theorem zdm {b : Nat} (hb : 2 <= b) (hb2 : b <= 16) (m : Nat) (hm : m < 1099511627776) : (zde b m).all (fun c => decide (zph c < b)) = true :=
 zdl hb hb2 _ (fun d hd => jT (by rw [(zdc (by omega)).1]; exact hd)) m hm
end

section
open Go.RowKit
set_option maxHeartbeats 16000000
def zm4 (l : List UInt8) : Option Nat := if (1 <= l.length /\ l.length <= 4) /\ l.all (fun c => decide (zph c < 16)) = true then some (zpi 16 0 l) else none
def zm5 : List (List UInt8) -> Bool -> Option (List Nat)
 | [], _ => some []
 | [x], last => match (if last then zpr x else none) with
   | some v => some [v / 65536, v % 65536]
   | none => match zm4 x with
     | some g => some [g]
     | none => none
 | x :: y :: r, last => match zm4 x with
   | none => none
   | some g => match zm5 (y :: r) last with
     | none => none
     | some m => some (g :: m)
def zm6 (l : List UInt8) (last : Bool) : Option (List Nat) := if l = [] then some [] else zm5 (z2m 58 l) last
def zm7 : List UInt8 -> Nat -> Option Nat
 | [], _ => none
 | [_], _ => none
 | a :: b :: r, i => if a = 58 /\ b = 58 then some i else zm7 (b :: r) (i + 1)
def zm8 (n : Nat) : List Nat := List.replicate n 0
def zm9 (l : List UInt8) : Option (List Nat) := match zm7 l 0 with
 | none => match zm6 l true with
   | some g => if g.length = 8 then some g else none
   | none => none
 | some k => match zm6 (l.take k) false with
   | none => none
   | some g => match zm6 (l.drop (k + 2)) true with
     | none => none
     | some h => if g.length + h.length <= 7 then some (g ++ (zm8 (8 - g.length - h.length) ++ h)) else none
def zna (v : Nat) : List UInt8 := zde 16 v
def znb (l : List Nat) : Nat := (l.takeWhile fun x => x == 0).length
def znc (a : List Nat) (st : Int × Nat) (i : Nat) : Int × Nat := if st.2 < znb (a.drop i) then ((i : Int), znb (a.drop i)) else st
def znd (a : List Nat) (k : Nat) : Int × Nat := (List.range k).foldl (znc a) (-1, 1)
def zne (a : List Nat) (at_ : Int) (m k : Nat) : List UInt8 := if at_ < 0 \/ (k : Int) <= at_ then z2v 58 ((a.take k).map zna) else z2v 58 ((a.take at_.toNat).map zna) ++ 58 :: 58 :: z2v 58 (((a.take k).drop (at_.toNat + m)).map zna)
def znf (a : List Nat) : List UInt8 := zne a (znd a 8).1 (znd a 8).2 8
theorem zng (a : List Nat) (k : Nat) : znd a (k + 1) = znc a (znd a k) k := by
 unfold znd
 rw [List.range_succ, List.foldl_append]; rfl
theorem znh (l : List Nat) : znb l <= l.length := by
 unfold znb
 induction l with
 | nil => simp
 | cons x r ih => rw [List.takeWhile_cons]; split <;> simp; omega
theorem zni (l : List Nat) : l.take (znb l) = zm8 (znb l) := by
 induction l with
 | nil => rfl
 | cons x r ih =>
   unfold znb at ih ⊢
   rw [List.takeWhile_cons]
   by_cases h : (x == 0) = true
   ·rw [if_pos h]
    have : x = 0 := by simpa using h
    subst this
    rw [List.length_cons, List.take_succ_cons, ih]; rfl
   ·rw [if_neg h]; rfl
theorem znj (a : List Nat) : ∀ k, (znd a k = (-1, 1)) \/ (∃ i m, i < k /\ znd a k = ((i : Int), m) /\ 2 <= m /\ m = znb (a.drop i))
 | 0 => .inl rfl
 | k + 1 => by
   rw [zng]
   unfold znc
   split
   ·rename_i h
    refine .inr ⟨k, _, by omega, rfl, ?_, rfl⟩
    rcases znj a k with e | ⟨i, m, _, e, h2, _⟩
    ·rw [e] at h; simp only at h; omega
    ·rw [e] at h; simp only at h; omega
   ·rcases znj a k with e | ⟨i, m, hi, e, h2⟩
    ·exact .inl e
    ·exact .inr ⟨i, m, by omega, e, h2⟩
theorem znk : ∀ (l : List UInt8) (i : Nat), zm7 l i = (zm7 l 0).map (· + i)
 | [], _ => rfl
 | [_], _ => rfl
 | a :: b :: r, i => by
   unfold zm7
   split
   ·simp
   ·rw [znk (b :: r) (i + 1), znk (b :: r) (0 + 1)]
    cases zm7 (b :: r) 0 with
    | none => rfl
    | some x => simp; omega
theorem znl : ∀ (l r : List UInt8) (i : Nat), zm7 l i = none -> l.getLast? ≠ some 58 -> zm7 (l ++ 58 :: 58 :: r) i = some (i + l.length)
 | [], r, i, _, _ => by simp [zm7]
 | [x], r, i, _, h => by
   have hx : x ≠ 58 := by simpa using h
   rw [List.cons_append, List.nil_append, zm7, if_neg (fun e => hx e.1), zm7, if_pos ⟨rfl, rfl⟩]; rfl
 | x :: y :: l, r, i, h, h2 => by
   have hne : ¬ (x = 58 /\ y = 58) := by
    intro e
    rw [zm7, if_pos e] at h
    cases h
   rw [zm7, if_neg hne] at h
   have h3 : (y :: l).getLast? ≠ some 58 := by rwa [List.getLast?_cons_cons] at h2
   have ih := znl (y :: l) r (i + 1) h h3
   rw [List.cons_append, List.cons_append, zm7, if_neg hne]
   rw [List.cons_append] at ih
   rw [ih]
   simp; omega
theorem znm : ∀ (a m : List UInt8) (i : Nat), noB 58 a -> m.head? ≠ some 58 -> zm7 m (i + a.length + 1) = none -> zm7 (a ++ 58 :: m) i = none
 | [], [], i, _, _, _ => rfl
 | [], c :: m, i, _, h, h2 => by
   have hc : c ≠ 58 := by simpa using h
   rw [List.nil_append, zm7, if_neg (fun e => hc e.2)]
   simpa using h2
 | [x], m, i, ha, h, h2 => by
   have hx : x ≠ 58 := ha x (by simp)
   rw [List.cons_append, List.nil_append, zm7, if_neg (fun e => hx e.1)]
   have := znm [] m (i + 1) (by intro b hb; simp at hb) h (by simpa using h2)
   simpa using this
 | x :: y :: a, m, i, ha, h, h2 => by
   have hx : x ≠ 58 := ha x (by simp)
   rw [List.cons_append, List.cons_append, zm7, if_neg (fun e => hx e.1)]
   have := znm (y :: a) m (i + 1) (fun b hb => ha b (by simp at hb ⊢; exact .inr hb)) h (by
    have e : i + 1 + (y :: a).length + 1 = i + (x :: y :: a).length + 1 := by simp; omega
    rw [e]; exact h2)
   simpa using this
theorem znn : ∀ (a : List UInt8) (i : Nat), noB 58 a -> zm7 a i = none
 | [], _, _ => rfl
 | [_], _, _ => rfl
 | x :: y :: a, i, h => by
   rw [zm7, if_neg (fun e => h x (by simp) e.1)]
   exact znn (y :: a) (i + 1) (fun b hb => h b (by simp at hb ⊢; exact .inr hb))
def zno (P : List (List UInt8)) : Prop := ∀ x ∈ P, x ≠ [] /\ noB 58 x
theorem zno.tail {x : List UInt8} {P : List (List UInt8)} (h : zno (x :: P)) : zno P := fun y hy => h y (by simp [hy])
theorem znp {P : List (List UInt8)} (h : zno P) : (z2v 58 P).head? ≠ some 58 := by
 match P, h with
 | [], _ => simp [z2v]
 | [a], h =>
   obtain ⟨h1, h2⟩ := h a (by simp)
   cases a with
   | nil => exact absurd rfl h1
   | cons c r => simpa [z2v] using h2 c (by simp)
 | a :: b :: r, h =>
   obtain ⟨h1, h2⟩ := h a (by simp)
   cases a with
   | nil => exact absurd rfl h1
   | cons c r => simpa [z2v] using h2 c (by simp)
theorem znq {P : List (List UInt8)} (h : zno P) (hP : P ≠ []) : z2v 58 P ≠ [] := by
 match P, h with
 | [a], h => exact (h a (by simp)).1
 | a :: b :: r, h => simp [z2v]
theorem znr {P : List (List UInt8)} (h : zno P) : (z2v 58 P).getLast? ≠ some 58 := by
 induction P with
 | nil => simp [z2v]
 | cons a r ih =>
   cases r with
   | nil =>
     obtain ⟨h1, h2⟩ := h a (by simp)
     rw [z2v]
     intro e
     have := List.mem_of_getLast? e
     exact h2 58 this rfl
   | cons b r =>
     have h3 := ih h.tail
     have h4 := znq h.tail (by simp)
     rw [z2v]
     rw [List.getLast?_append, List.getLast?_cons]
     cases hx : (z2v 58 (b :: r)).getLast? with
     | none => exact absurd (List.getLast?_eq_none_iff.1 hx) h4
     | some y => rw [hx] at h3; simpa using h3
theorem zns {P : List (List UInt8)} (h : zno P) : ∀ i, zm7 (z2v 58 P) i = none := by
 induction P with
 | nil => intro i; rfl
 | cons a r ih =>
   intro i
   cases r with
   | nil => exact znn a i (h a (by simp)).2
   | cons b r =>
     rw [z2v]
     exact znm a _ i (h a (by simp)).2 (znp h.tail) (ih h.tail _)
theorem znt {P : List (List UInt8)} (h : zno P) (hP : P ≠ []) : z2m 58 (z2v 58 P) = P := z2z 58 P hP (fun a ha => (h a ha).2)
theorem znu {P : List (List UInt8)} (h : zno P) (last : Bool) : zm6 (z2v 58 P) last = zm5 P last := by
 unfold zm6
 by_cases hP : P = []
 ·subst hP; rfl
 ·rw [if_neg (znq h hP), znt h hP]
theorem znv {P : List (List UInt8)} (h : zno P) {g : List Nat} (hg : zm5 P true = some g) (hl : g.length = 8) : zm9 (z2v 58 P) = some g := by
 unfold zm9
 rw [zns h 0]
 simp only
 rw [znu h, hg]
 simp only
 rw [if_pos hl]
theorem znw {P Q : List (List UInt8)} (hP : zno P) (hQ : zno Q) {g q : List Nat} (hg : zm5 P false = some g) (hq : zm5 Q true = some q) (hl : g.length + q.length <= 7) :
 zm9 (z2v 58 P ++ 58 :: 58 :: z2v 58 Q) = some (g ++ (zm8 (8 - g.length - q.length) ++ q)) := by
 unfold zm9
 rw [znl _ _ 0 (zns hP 0) (znr hP)]
 simp only [Nat.zero_add]
 have e1 : (z2v 58 P ++ 58 :: 58 :: z2v 58 Q).take (z2v 58 P).length = z2v 58 P := by rw [List.take_append_of_le_length jH, List.take_length]
 have e2 : (z2v 58 P ++ 58 :: 58 :: z2v 58 Q).drop ((z2v 58 P).length + 2) = z2v 58 Q := by
  rw [<- List.drop_drop, List.drop_append_of_le_length jH, List.drop_length]; rfl
 rw [e1, e2, znu hP, hg]
 simp only
 rw [znu hQ, hq]
 simp only
 rw [if_pos hl]
def znx (P : List (List UInt8)) (g : List Nat) : Prop := P.map zm4 = g.map some
theorem zny {x : List UInt8} {g : Nat} (h : zm4 x = some g) : zpr x = none := by
 cases hp : zpr x with
 | none => rfl
 | some v =>
   have hx := (zqg hp).2
   unfold zm4 at h
   split at h
   ·rename_i hc
    have h46 : (46 : UInt8) ∈ x := by rw [hx]; unfold zps; simp [z2v]
    have := List.all_eq_true.1 hc.2 46 h46
    exact absurd this (by decide)
   ·cases h
theorem znz : ∀ (P : List (List UInt8)) (g : List Nat) (last : Bool), znx P g -> zm5 P last = some g
 | [], g, _, h => by
   unfold znx at h
   have : g = [] := by cases g with
    | nil => rfl
    | cons => simp at h
   subst this; rfl
 | [x], g, last, h => by
   unfold znx at h
   match g, h with
   | [y], h =>
     have hx : zm4 x = some y := by simpa using h
     have h4 := zny hx
     rw [zm5]
     have : (if last = true then zpr x else none) = none := by split <;> simp [h4]
     rw [this, hx]
   | _ :: _ :: _, h => simp at h
 | x :: y :: r, g, last, h => by
   unfold znx at h
   match g, h with
   | z :: g, h =>
     have hx : zm4 x = some z := by simp at h; exact h.1
     have hr : znx (y :: r) g := by unfold znx; simp at h ⊢; exact h.2
     rw [zm5, hx, znz (y :: r) g last hr]
theorem znx.append {P Q : List (List UInt8)} {g q : List Nat} (h : znx P g) (h2 : znx Q q) : znx (P ++ Q) (g ++ q) := by
 unfold znx at h h2 ⊢
 rw [List.map_append, List.map_append, h, h2]
theorem zn0 (v : Nat) (hv : v < 65536) : 1 <= (zna v).length /\ (zna v).length <= 4 := by
 have h0 := zdj (b := 16) (by omega) v (by omega)
 refine ⟨List.length_pos_iff.2 h0, ?_⟩
 have key : ∀ (k m : Nat), m < 16 ^ (k + 1) -> m < 1099511627776 -> (zde 16 m).length <= k + 1 := by
  intro k
  induction k with
  | zero => intro m h _; rw [zdg (by simpa using h)]; simp
  | succ k ih =>
    intro m h hm
    by_cases hs : m < 16
    ·rw [zdg hs]; simp
    ·rw [zdh (by omega) hm hs, List.length_append]
     have := ih (m / 16) (by rw [Nat.pow_succ] at h; omega) (by omega)
     simp; omega
 exact key 3 v (by have : (16 : Nat) ^ (3 + 1) = 65536 := by decide
                   omega) (by omega)
theorem zn1 (v : Nat) (hv : v < 65536) : zm4 (zna v) = some v := by
 unfold zm4
 rw [if_pos ⟨zn0 v hv, zdm (by omega) (by omega) v (by omega)⟩]
 unfold zna
 rw [zdk (by omega) (by omega) v (by omega)]
theorem zn2 : ∀ d : Fin 16, zda d.val ≠ 58 := by decide +kernel
theorem zn3 (v : Nat) (hv : v < 65536) : noB 58 (zna v) := by
 have h := zdl (b := 16) (by omega) (by omega) (fun c => decide (c ≠ 58)) (fun d hd => jT (zn2 ⟨d, hd⟩)) v (by omega)
 rw [List.all_eq_true] at h
 intro c hc
 exact of_decide_eq_true (h c hc)
theorem zn4 (v : Nat) (hv : v < 65536) : zna v ≠ [] := zdj (by omega) v (by omega)
def G16 (a : List Nat) : Prop := ∀ x ∈ a, x < 65536
theorem G16.cols {a : List Nat} (h : G16 a) : zno (a.map zna) := by
 intro x hx
 obtain ⟨v, hv, rfl⟩ := List.mem_map.1 hx
 exact ⟨zn4 v (h v hv), zn3 v (h v hv)⟩
theorem G16.grps {a : List Nat} (h : G16 a) : znx (a.map zna) a := by
 unfold znx
 rw [List.map_map]
 exact List.map_congr_left fun v hv => zn1 v (h v hv)
theorem G16.take {a : List Nat} (h : G16 a) (k : Nat) : G16 (a.take k) := fun x hx => h x (List.mem_of_mem_take hx)
theorem G16.drop {a : List Nat} (h : G16 a) (k : Nat) : G16 (a.drop k) := fun x hx => h x (List.mem_of_mem_drop hx)
theorem zn5 (a : List Nat) (h : G16 a) (hl : a.length = 8) : zm9 (znf a) = some a := by
 unfold znf zne
 rcases znj a 8 with e | ⟨i, m, hi, e, h2, hm⟩
 ·rw [e]
  simp only
  rw [if_pos (.inl (by decide)), List.take_of_length_le (by omega)]
  exact znv h.cols (znz _ _ _ h.grps) hl
 ·rw [e]
  simp only
  have hmz := znh (a.drop i)
  rw [<- hm, List.length_drop] at hmz
  rw [if_neg (by omega), Int.toNat_natCast, List.take_of_length_le (by omega : a.length <= 8)]
  have hp := znw (h.take i).cols (h.drop (i + m)).cols (znz _ _ false (h.take i).grps) (znz _ _ true (h.drop (i + m)).grps) (by simp; omega)
  rw [hp]
  congr 1
  have hz := zni (a.drop i)
  rw [<- hm] at hz
  have e1 : 8 - (a.take i).length - (a.drop (i + m)).length = m := by simp; omega
  rw [e1, <- hz, <- List.drop_drop, List.take_append_drop, List.take_append_drop]
end

end Go.Proofs.YtekaljeicfjkjaaGreatDoor
