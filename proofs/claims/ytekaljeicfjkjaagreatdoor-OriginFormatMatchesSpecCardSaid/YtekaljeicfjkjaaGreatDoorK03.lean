/-
How a reader from left to right finds the numbers of an address: no program.
Digits of a number in a base: plain facts, no program.
IPv6 addresses in plain words: no program.
-/
import Derived.Test.YtekaljeicfjkjaaGreatDoorK02
import Derived.Lib.Strings
import Derived.Lib.LastIndexByte
namespace Go.Proofs.YtekaljeicfjkjaaGreatDoor
section
open Go.RowKit
set_option maxHeartbeats 16000000
def zrx (l : List UInt8) : List UInt8 := if l.getLast? = some 46 then l.dropLast else l
theorem zry (l : List UInt8) : zrx (l ++ [46]) = l := by unfold zrx; simp
theorem zrz (l : List UInt8) : (∃ m, l = m ++ [46]) \/ (l.getLast? ≠ some 46 /\ zrx l = l) := by
 by_cases h : l.getLast? = some 46
 ·left
  obtain ⟨m, hm⟩ := List.getLast?_eq_some_iff.1 h
  exact ⟨m, hm⟩
 ·right
  exact ⟨h, by unfold zrx; rw [if_neg h]⟩
theorem zr0 (l : List UInt8) : Lib.trimSuffix l [46] = zrx l := by
 unfold Lib.trimSuffix Lib.hasSuffix
 rcases zrz l with ⟨m, rfl⟩ | ⟨h, hu⟩
 ·rw [zry]
  have : ([46] : List UInt8).isSuffixOf (m ++ [46]) = true := by
   rw [List.isSuffixOf_iff_suffix]
   exact ⟨m, rfl⟩
  rw [if_pos this]
  simp
 ·rw [hu]
  have : ¬ ([46] : List UInt8).isSuffixOf l = true := by
   rw [List.isSuffixOf_iff_suffix]
   rintro ⟨m, rfl⟩
   exact h (by simp)
  rw [if_neg this]
theorem zr1 (c : UInt8) : ∀ p : List (List UInt8), 1 < p.length -> p.getLast? = some [] -> (z3k c p).getLast? = some c
 | [], h, _ => by simp at h
 | [_], h, _ => by simp at h
 | [a, b], _, h => by
   simp at h
   subst h
   simp [z3k]
 | a :: b :: d :: r, _, h => by
   have h1 := zr1 c (b :: d :: r) (by simp) (by simpa using h)
   rw [z3k, List.getLast?_append]
   rw [List.getLast?_cons, h1]
   rfl
theorem zr2 (l : List UInt8) : zqd l = z3b 46 (zrx l) := by
 rcases zrz l with ⟨m, rfl⟩ | ⟨h, hu⟩
 ·rw [zrb, zry]
 ·rw [hu]
  unfold zqd
  rw [if_neg]
  rintro ⟨h1, h2⟩
  have := zr1 46 _ h1 h2
  rw [z3n] at this
  exact h this
def pd (b : UInt8) : Nat := min (zqe b) 16
theorem zr3 (c : UInt8) (b : Nat) (hb : b <= 16) : pd c < b ↔ zqe c < b := by unfold pd; omega
def sfx : Option (List UInt8) -> List UInt8
 | none => []
 | some r => 46 :: r
def zr4 (b : Nat) : List UInt8 -> Nat -> Option (Nat × Option (List UInt8))
 | [], n => some (n, none)
 | c :: r, n => if c = 46 then some (n, some r) else if zqe c < b then zr4 b r (min (b * n + zqe c) 4294967296) else none
theorem zr5 (b v d : Nat) (hb : 1 <= b) : min (b * min v 4294967296 + d) 4294967296 = min (v * b + d) 4294967296 := by
 by_cases h : v <= 4294967296
 ·rw [Nat.min_eq_left h, Nat.mul_comm]
 ·rw [Nat.min_eq_right (show 4294967296 <= v by omega)]
  have h1 : 1 * 4294967296 <= b * 4294967296 := Nat.mul_le_mul_right _ hb
  have h2 : 4294967296 * 1 <= v * b := Nat.mul_le_mul (by omega) hb
  omega
theorem zr6 (b : Nat) (hb : 1 <= b) (o : Option (List UInt8)) : ∀ (x : List UInt8) (v : Nat), noB 46 x ->
 zr4 b (x ++ sfx o) (min v 4294967296) = if x.all (fun c => decide (zqe c < b)) = true then some (min (zqf b v x) 4294967296, o) else none
 | [], v, _ => by
   cases o with
   | none => rfl
   | some r => simp [sfx, zr4, zqf]
 | c :: x, v, h => by
   have hc : c ≠ 46 := h c (by simp)
   rw [List.cons_append, zr4, if_neg hc, List.all_cons]
   by_cases hd : zqe c < b
   ·rw [if_pos hd, zr5 b v _ hb, zr6 b hb o x _ (fun y hy => h y (by simp [hy])), zqf]
    simp [hd]
   ·rw [if_neg hd]
    simp [hd]
def zr7 (l : List UInt8) : Bool := Lib.hasPrefix l [48, 120] || Lib.hasPrefix l [48, 88]
theorem zr8 (l : List UInt8) : zr7 l = true ↔ ∃ b r, l = 48 :: b :: r /\ (b = 120 \/ b = 88) := by
 unfold zr7 Lib.hasPrefix
 rw [Bool.or_eq_true, List.isPrefixOf_iff_prefix, List.isPrefixOf_iff_prefix]
 constructor
 ·rintro (⟨r, rfl⟩ | ⟨r, rfl⟩)
  ·exact ⟨120, r, rfl, .inl rfl⟩
  ·exact ⟨88, r, rfl, .inr rfl⟩
 ·rintro ⟨b, r, rfl, rfl | rfl⟩
  ·exact .inl ⟨r, rfl⟩
  ·exact .inr ⟨r, rfl⟩
def zr9 (l : List UInt8) : Nat × Nat := if zr7 l = true then (16, 2) else if l.head? = some 48 then (8, 1) else (10, 0)
theorem zsa (o : Option (List UInt8)) (x : List UInt8) (hx : x ≠ []) (hn : noB 46 x) : ∃ b y, (zr9 (x ++ sfx o)).1 = b /\ (x ++ sfx o).drop (zr9 (x ++ sfx o)).2 = y ++ sfx o /\ 1 <= b /\ noB 46 y /\
 zqi x = if y.all (fun c => decide (zqe c < b)) = true then some (zqf b 0 y) else none := by
 unfold zr9
 by_cases hh : zr7 (x ++ sfx o) = true
 ·rw [if_pos hh]
  obtain ⟨b, r, e, hb⟩ := (zr8 _).1 hh
  cases x with
  | nil => exact absurd rfl hx
  | cons c x =>
    rw [List.cons_append] at e
    injection e with e1 e2
    subst e1
    cases x with
    | nil =>
      rw [List.nil_append] at e2
      cases o with
      | none => cases e2
      | some r' =>
        injection e2 with e3 _
        subst e3
        simp at hb
    | cons d x =>
      rw [List.cons_append] at e2
      injection e2 with e3 e4
      subst e3
      refine ⟨16, x, rfl, rfl, by omega, fun y hy => hn y (by simp [hy]), ?_⟩
      unfold zqi
      rw [if_neg (by simp), zqv d x hb]
 ·rw [if_neg hh]
  cases x with
  | nil => exact absurd rfl hx
  | cons c x =>
    by_cases hc : c = 48
    ·subst hc
     rw [if_pos (by simp)]
     refine ⟨8, x, rfl, rfl, by omega, fun y hy => hn y (by simp [hy]), ?_⟩
     cases x with
     | nil =>
       unfold zqi
       rw [if_neg (by simp), zqu _ (.inr (by simp))]
       decide
     | cons d x =>
       have hd : ¬ (d = 120 \/ d = 88) := fun hd => hh ((zr8 _).2 ⟨d, x ++ sfx o, by simp, hd⟩)
       unfold zqi
       rw [if_neg (by simp), zqw d x hd]
    ·rw [if_neg (by simp [hc])]
     refine ⟨10, c :: x, rfl, rfl, by omega, hn, ?_⟩
     unfold zqi
     rw [if_neg (by simp), zqu _ (.inl (by simp [hc]))]
def pnS : Nat -> List UInt8 -> Nat -> Option Nat
 | 0, _, _ => none
 | m + 1, t, a => if t = [] \/ t.head? = some 46 then none else
   match zr4 (zr9 t).1 (t.drop (zr9 t).2) 0 with
   | none => none
   | some (n, none) => if n < 256 ^ (m + 1) then some (a * 256 ^ (m + 1) + n) else none
   | some (n, some r) => if n <= 255 then pnS m r (a * 256 + n) else none
def pnR : Nat -> List (List UInt8) -> Nat -> Option Nat
 | 0, _, _ => none
 | _ + 1, [], _ => none
 | m + 1, [x], a => match zqi x with
   | none => none
   | some n => if n < 256 ^ (m + 1) then some (a * 256 ^ (m + 1) + n) else none
 | m + 1, x :: y :: r, a => match zqi x with
   | none => none
   | some n => if n <= 255 then pnR m (y :: r) (a * 256 + n) else none
theorem zsb : ∀ t : List UInt8, ∃ x o, t = x ++ sfx o /\ noB 46 x
 | [] => ⟨[], none, rfl, fun _ h => by simp at h⟩
 | c :: t => by
   by_cases hc : c = 46
   ·exact ⟨[], some t, by rw [hc]; rfl, fun _ h => by simp at h⟩
   ·obtain ⟨x, o, e, hn⟩ := zsb t
    refine ⟨c :: x, o, by rw [e]; rfl, ?_⟩
    intro y hy
    simp at hy
    rcases hy with rfl | hy
    ·exact hc
    ·exact hn y hy
theorem zsc (m : Nat) (h : m + 1 <= 4) : 256 ^ (m + 1) <= 4294967296 := by
 have : m = 0 \/ m = 1 \/ m = 2 \/ m = 3 := by omega
 rcases this with rfl | rfl | rfl | rfl <;> decide
theorem zsd : ∀ (m : Nat) (t : List UInt8) (a : Nat), m <= 4 -> pnS m t a = pnR m (z3b 46 t) a
 | 0, _, _, _ => rfl
 | m + 1, t, a, hm => by
   obtain ⟨x, o, rfl, hn⟩ := zsb t
   have hne : ∀ r, ∃ y ys, z3b 46 r = y :: ys := fun r => by
    cases h : z3b 46 r with
    | nil => exact absurd h (z3c 46 r [])
    | cons y ys => exact ⟨y, ys, rfl⟩
   by_cases hx : x = []
   ·subst hx
    have hN : zqi [] = none := rfl
    cases o with
    | none =>
      rw [pnS, if_pos (.inl rfl), z3j 46 _ (fun _ h => by simp [sfx] at h)]
      rw [show ([] ++ sfx none : List UInt8) = [] from rfl, pnR, hN]
    | some r =>
      rw [pnS, if_pos (.inr rfl), show ([] ++ sfx (some r) : List UInt8) = [] ++ 46 :: r from rfl, z3i 46 [] r hn]
      obtain ⟨y, ys, e⟩ := hne r
      rw [e, pnR, hN]
   ·obtain ⟨b, y, e1, e2, hb, hy, e3⟩ := zsa o x hx hn
    have hs := zr6 b hb o y 0 hy
    rw [show min 0 4294967296 = 0 from rfl] at hs
    have h0 : ¬ (x ++ sfx o = [] \/ (x ++ sfx o).head? = some 46) := by
     cases x with
     | nil => exact absurd rfl hx
     | cons c x =>
       have := hn c (by simp)
       simp [this]
    rw [pnS, if_neg h0, e1, e2, hs]
    have hp := zsc m hm
    have hp1 : 256 <= 256 ^ (m + 1) := by rw [Nat.pow_succ]; have := Nat.pos_of_ne_zero (show 256 ^ m ≠ 0 by simp); omega
    cases o with
    | none =>
      rw [show x ++ sfx none = x from List.append_nil x, z3j 46 x hn, pnR, e3]
      by_cases ha : y.all (fun c => decide (zqe c < b)) = true
      ·rw [if_pos ha, if_pos ha]
       show (if min (zqf b 0 y) 4294967296 < 256 ^ (m + 1) then some (a * 256 ^ (m + 1) + min (zqf b 0 y) 4294967296) else none) = if zqf b 0 y < 256 ^ (m + 1) then some (a * 256 ^ (m + 1) + zqf b 0 y) else none
       by_cases hv : zqf b 0 y < 256 ^ (m + 1)
       ·rw [if_pos hv, Nat.min_eq_left (by omega), if_pos hv]
       ·rw [if_neg hv, if_neg (by omega)]
      ·rw [if_neg ha, if_neg ha]
    | some r =>
      rw [show x ++ sfx (some r) = x ++ 46 :: r from rfl, z3i 46 x r hn]
      obtain ⟨z, zs, e⟩ := hne r
      have ih := zsd m r (a * 256 + zqf b 0 y) (by omega)
      rw [e] at ih ⊢
      rw [pnR, e3]
      by_cases ha : y.all (fun c => decide (zqe c < b)) = true
      ·rw [if_pos ha, if_pos ha]
       show (if min (zqf b 0 y) 4294967296 <= 255 then pnS m r (a * 256 + min (zqf b 0 y) 4294967296) else none) = if zqf b 0 y <= 255 then pnR m (z :: zs) (a * 256 + zqf b 0 y) else none
       by_cases hv : zqf b 0 y <= 255
       ·rw [if_pos hv, Nat.min_eq_left (by omega), if_pos hv, ih]
       ·rw [if_neg hv, if_neg (by omega)]
      ·rw [if_neg ha, if_neg ha]
theorem zse : ∀ (p : List (List UInt8)) (i a : Nat), p ≠ [] -> i <= 4 -> (if 4 < i + p.length then none else zql p i (a * 256 ^ (4 - i))) = pnR (4 - i) p a
 | [], _, _, h, _ => absurd rfl h
 | [x], i, a, _, hi => by
   by_cases h4 : i = 4
   ·subst h4
    rfl
   ·obtain ⟨m, hm⟩ : ∃ m, 4 - i = m + 1 := ⟨3 - i, by omega⟩
    rw [if_neg (by simp; omega), hm, zql, pnR, hm]
    all_goals (cases zqi x <;> rfl)
 | x :: y :: r, i, a, _, hi => by
   by_cases h4 : i = 4
   ·subst h4
    rw [if_pos (by simp), Nat.sub_self, pnR]
   ·obtain ⟨m, hm⟩ : ∃ m, 4 - i = m + 1 := ⟨3 - i, by omega⟩
    have hm3 : 3 - i = m := by omega
    have hm4 : 4 - (i + 1) = m := by omega
    rw [hm, zql, pnR, hm3]
    cases hx : zqi x with
    | none => simp
    | some n =>
      show (if 4 < i + (x :: y :: r).length then none else if n <= 255 then zql (y :: r) (i + 1) (a * 256 ^ (m + 1) + n * 256 ^ m) else none) = if n <= 255 then pnR m (y :: r) (a * 256 + n) else none
      by_cases hn : n <= 255
      ·have ih := zse (y :: r) (i + 1) (a * 256 + n) (by simp) (by omega)
       rw [hm4] at ih
       rw [if_pos hn, if_pos hn, <- ih, show a * 256 ^ (m + 1) + n * 256 ^ m = (a * 256 + n) * 256 ^ m by rw [Nat.pow_succ, Nat.add_mul, Nat.mul_assoc, Nat.mul_comm 256]]
       have : i + (x :: y :: r).length = i + 1 + (y :: r).length := by simp; omega
       rw [this]
      ·rw [if_neg hn, if_neg hn]
       simp
theorem zsf (l : List UInt8) : pnL l = pnS 4 (zrx l) 0 := by
 rw [zsd 4 _ 0 jH, <- zr2]
 have hne : zqd l ≠ [] := by rw [zr2]; exact z3c 46 _ []
 have := zse (zqd l) 0 0 hne (by omega)
 rw [Nat.zero_add, Nat.zero_mul] at this
 exact this
theorem zsg : ∀ (m : Nat) (t : List UInt8) (a v : Nat), m <= 4 -> a < 256 ^ (4 - m) -> pnS m t a = some v -> v < 4294967296
 | 0, _, _, _, _, _, h => by cases h
 | m + 1, t, a, v, hm, ha, h => by
   rw [pnS] at h
   split at h
   ·cases h
   ·split at h
    ·cases h
    ·rename_i n _
     split at h
     ·rename_i hn
      injection h with h
      have e : 256 ^ (4 - (m + 1)) * 256 ^ (m + 1) = 4294967296 := by rw [<- Nat.pow_add, show 4 - (m + 1) + (m + 1) = 4 by omega]
      have : (a + 1) * 256 ^ (m + 1) <= 256 ^ (4 - (m + 1)) * 256 ^ (m + 1) := Nat.mul_le_mul_right _ ha
      rw [e, Nat.add_mul] at this
      omega
     ·cases h
    ·rename_i n r _
     split at h
     ·refine zsg m r _ v (by omega) ?_ h
      have e : 256 ^ (4 - m) = 256 ^ (4 - (m + 1)) * 256 := by rw [show 4 - m = 4 - (m + 1) + 1 by omega, Nat.pow_succ]
      rw [e]
      have : (a + 1) * 256 <= 256 ^ (4 - (m + 1)) * 256 := Nat.mul_le_mul_right _ ha
      omega
     ·cases h
theorem zsh {l : List UInt8} {v : Nat} (h : pnL l = some v) : v < 4294967296 := by
 rw [zsf] at h
 exact zsg 4 _ 0 v jH (by decide) h
theorem zsi (x : List UInt8) (hn : noB 46 x) : ∀ (p cur : List UInt8), (z3a 46 (p ++ 46 :: x) cur).getLastD [] = x
 | [], cur => by
   rw [List.nil_append, z3a, if_pos rfl, z3h 46 x [] hn]
   simp
 | c :: p, cur => by
   rw [List.cons_append, z3a]
   split
   ·have := zsi x hn p []
    cases h : z3a 46 (p ++ 46 :: x) [] with
    | nil => exact absurd h (z3c 46 _ _)
    | cons a q => rw [h] at this; simpa [List.getLastD] using this
   ·exact zsi x hn p _
theorem zsj (t : List UInt8) (h : noB 46 t) : (z3b 46 t).getLastD [] = t := by rw [z3j 46 t h]; rfl
theorem zsk (t : List UInt8) (i : Nat) (hi : i < t.length) (h : t[i] = 46) (hn : noB 46 (t.drop (i + 1))) : (z3b 46 t).getLastD [] = t.drop (i + 1) := by
 have e : t = t.take i ++ 46 :: t.drop (i + 1) := by
  rw [<- h, List.getElem_cons_drop, List.take_append_drop]
 have := zsi (t.drop (i + 1)) hn (t.take i) []
 rw [<- e] at this
 exact this
theorem zsl (s : ByteArray) : ∃ i : Nat, Lib.lastIndexByte s 46 + 1 = (i : Int) /\ i <= s.size /\ (z3b 46 (ls s)).getLastD [] = (ls s).drop i := by
 have hg : ∀ j (hj : j < s.size), ((s.data[j]!).toNat : Int) = 46 ↔ (ls s)[j]'(by rw [zb4]; exact hj) = 46 := by
  intro j hj
  have hj' : j < s.data.size := hj
  have e : s.data[j]! = (ls s)[j]'(by rw [zb4]; exact hj) := by
   rw [getElem!_pos s.data j hj']
   rfl
  rw [e]
  constructor
  ·intro h
   exact UInt8.toNat_inj.1 (by rw [show (46 : UInt8).toNat = 46 from rfl]; omega)
  ·intro h
   rw [h]
   rfl
 rcases Lib.lastIndexByte_spec s 46 with ⟨e, hn⟩ | ⟨i, hi, e, hc, hn⟩
 ·refine ⟨0, by omega, Nat.zero_le _, ?_⟩
  rw [List.drop_zero]
  refine zsj _ ?_
  intro c hc h46
  obtain ⟨j, hj, rfl⟩ := List.getElem_of_mem hc
  rw [zb4] at hj
  exact hn j hj ((hg j hj).2 h46)
 ·refine ⟨i + 1, by omega, by omega, ?_⟩
  refine zsk _ i (by rw [zb4]; exact hi) ((hg i hi).1 hc) ?_
  intro c hc h46
  obtain ⟨j, hj, rfl⟩ := List.getElem_of_mem hc
  rw [List.length_drop, zb4] at hj
  rw [List.getElem_drop] at h46
  exact hn (i + 1 + j) (by omega) (by omega) ((hg _ (by omega)).2 h46)
theorem zsm (c : UInt8) : zbe c = decide (zqe c < 10) := by
 by_cases h : zbe c = true
 ·rw [h, jT (zqr c h).2]
 ·have h2 : ¬ (48 <= c.toNat /\ c.toNat <= 57) := fun k => h ((z2l c).2 (by omega))
  rw [Bool.not_eq_true] at h
  rw [h]
  symm
  refine jF ?_
  unfold zqe
  rw [if_neg h2]
  split
  ·omega
  ·split <;> omega
theorem zsn (x : List UInt8) : zqj x = if zr7 x = true then (x.drop 2).all (fun c => decide (zqe c < 16)) else (!x.isEmpty && x.all (fun c => decide (zqe c < 10))) := by
 have hall : x.all zbe = x.all (fun c => decide (zqe c < 10)) := by
  congr 1
  funext c
  exact zsm c
 by_cases hh : zr7 x = true
 ·rw [if_pos hh]
  obtain ⟨b, r, rfl, hb⟩ := (zr8 _).1 hh
  have hd : zbe b = false := by rcases hb with rfl | rfl <;> decide
  unfold zqj
  have h1 : (48 :: b :: r).all zbe = false := by simp [hd]
  have h2 : (((48 :: b :: r).getD 1 0 == 120) || ((48 :: b :: r).getD 1 0 == 88)) = true := by
   rcases hb with rfl | rfl <;> rfl
  have h3 : zqi (48 :: b :: r) = if r.all (fun c => decide (zqe c < 16)) = true then some (zqf 16 0 r) else none := by
   unfold zqi
   rw [if_neg (by simp), zqv b r hb]
  rw [h1, h2, h3, Bool.and_true, Bool.false_and, Bool.false_or]
  by_cases ha : r.all (fun c => decide (zqe c < 16)) = true
  ·rw [if_pos ha]
   simpa using ha
  ·rw [if_neg ha]
   simpa using ha
 ·rw [if_neg hh]
  unfold zqj
  rw [hall, Bool.and_comm (!x.isEmpty)]
  have h2 : ((zqi x).isSome && decide (2 <= x.length) && (x.getD 1 0 == 120 || x.getD 1 0 == 88)) = false := by
   match x with
   | [] => rfl
   | [c] => simp
   | c :: b :: r =>
     by_cases hb : b = 120 \/ b = 88
     ·have hc : c ≠ 48 := fun h => hh ((zr8 _).2 ⟨b, r, by rw [h], hb⟩)
      have hd : ¬ zqe b < 10 := by rcases hb with rfl | rfl <;> decide
      have : zqi (c :: b :: r) = none := by
       unfold zqi
       rw [if_neg (by simp), zqu _ (.inl (by simp [hc])), if_neg]
       simp [hd]
      rw [this]
      rfl
     ·simp only [not_or] at hb
      have : ((c :: b :: r).getD 1 0 == 120 || (c :: b :: r).getD 1 0 == 88) = false := by simp [hb.1, hb.2]
      rw [this, Bool.and_false]
  rw [h2, Bool.or_false]
theorem zso (l : List UInt8) : zqk l = zqj ((z3b 46 (zrx l)).getLastD []) := by
 unfold zqk
 rw [zr2]
theorem zsp (l : List UInt8) : zqo l = match pnL l with
 | none => none
 | some v => if zqp v = l then some v else none := by
 cases hp : pnL l with
 | none =>
   cases hq : zqo l with
   | none => rfl
   | some v =>
     obtain ⟨hv, rfl⟩ := zrd hq
     rw [zq8 v hv] at hp
     cases hp
 | some v =>
   show _ = if zqp v = l then some v else none
   by_cases hf : zqp v = l
   ·rw [if_pos hf]
    have := zq5 v (zsh hp)
    rw [hf] at this
    exact this
   ·rw [if_neg hf]
    cases hq : zqo l with
    | none => rfl
    | some u =>
      obtain ⟨hu, rfl⟩ := zrd hq
      rw [zq8 u hu] at hp
      injection hp with hp
      subst hp
      exact absurd rfl hf
def zsq (v : Nat) : Nat -> List UInt8
 | 0 => []
 | i + 1 => zsq v i ++ ((if i = 0 then [] else [46]) ++ Lib.decDigits (v / 256 ^ (3 - i) % 256))
theorem zsr (v : Nat) (h : v < 4294967296) : zsq v 4 = zqp v := by
 unfold zqp
 simp only [zsq, z3k]
 rw [show v / 256 ^ (3 - 0) % 256 = v / 16777216 by rw [show 256 ^ (3 - 0) = 16777216 from rfl]; omega, show 256 ^ (3 - 1) = 65536 from rfl, show 256 ^ (3 - 2) = 256 from rfl, show v / 256 ^ (3 - 3) % 256 = v % 256 by simp]
 simp
theorem zss (u : Nat) (h : u < 256) : (Lib.decDigits u).length <= 3 := by
 by_cases h1 : u < 10
 ·rw [Lib.decDigits_one h1]; simp
 ·rw [z2n u h1, List.length_append]
  by_cases h2 : u / 10 < 10
  ·rw [Lib.decDigits_one h2]; simp
  ·rw [z2n _ h2, List.length_append, Lib.decDigits_one (by omega)]; simp
theorem zst (v : Nat) : ∀ i, (zsq v i).length <= 4 * i
 | 0 => by simp [zsq]
 | i + 1 => by
   have h1 := zst v i
   have h2 := zss (v / 256 ^ (3 - i) % 256) (by omega)
   rw [zsq, List.length_append, List.length_append]
   split <;> simp <;> omega
end

section
open Go.RowKit
set_option maxHeartbeats 16000000
def zda (d : Nat) : UInt8 := if d < 10 then UInt8.ofNat (48 + d) else UInt8.ofNat (87 + d)
theorem zdb : ∀ d : Fin 16, zqe (zda d.val) = d.val /\ zda d.val ≠ 46 /\ zbf (zda d.val) = zda d.val /\ zda d.val ≠ 120 /\ zda d.val ≠ 88 /\ (zda d.val = 48 -> d.val = 0) := by decide +kernel
theorem zdc {d : Nat} (h : d < 16) : zqe (zda d) = d /\ zda d ≠ 46 /\ zbf (zda d) = zda d /\ zda d ≠ 120 /\ zda d ≠ 88 /\ (zda d = 48 -> d = 0) := zdb ⟨d, h⟩
def zdd (b : Nat) : Nat -> Nat -> List UInt8
 | 0, m => [zda (m % b)]
 | f + 1, m => if m < b then [zda m] else zdd b f (m / b) ++ [zda (m % b)]
def zde (b m : Nat) : List UInt8 := zdd b 40 m
theorem zdf (b : Nat) (hb : 2 <= b) : ∀ f m, m < 2 ^ f -> zdd b (f + 1) m = zdd b f m
 | 0, m, h => by
   have hm : m = 0 := by simpa using h
   subst hm
   unfold zdd
   rw [if_pos (by omega), Nat.zero_mod]
 | f + 1, m, h => by
   unfold zdd
   by_cases hm : m < b
   ·rw [if_pos hm, if_pos hm]
   ·rw [if_neg hm, if_neg hm, zdf b hb f (m / b)]
    have : m / b <= m / 2 := Nat.div_le_div_left hb (by omega)
    rw [Nat.pow_succ] at h
    omega
theorem zdg {b m : Nat} (h : m < b) : zde b m = [zda m] := by
 unfold zde zdd
 rw [if_pos h]
theorem zdh {b m : Nat} (hb : 2 <= b) (hm : m < 1099511627776) (h : ¬ m < b) : zde b m = zde b (m / b) ++ [zda (m % b)] := by
 have h1 : zde b m = zdd b 39 (m / b) ++ [zda (m % b)] := by
  show zdd b (39 + 1) m = _
  rw [zdd, if_neg h]
 have h2 : zdd b 40 (m / b) = zdd b 39 (m / b) := zdf b hb 39 (m / b) (by
  have : m / b <= m / 2 := Nat.div_le_div_left hb (by omega)
  have e : (2 : Nat) ^ 39 = 549755813888 := by decide
  omega)
 rw [h1]
 unfold zde
 rw [h2]
theorem zdi {b : Nat} (hb : 2 <= b) (C : Nat -> List UInt8 -> Prop) (h0 : ∀ m, m < b -> C m [zda m]) (h1 : ∀ m, m < 1099511627776 -> ¬ m < b -> C (m / b) (zde b (m / b)) -> C m (zde b (m / b) ++ [zda (m % b)])) :
 ∀ m, m < 1099511627776 -> C m (zde b m) := by
 intro m
 induction m using Nat.strongRecOn with
 | ind m ih =>
   intro hm
   by_cases h : m < b
   ·rw [zdg h]; exact h0 m h
   ·rw [zdh hb hm h]
    have hlt : m / b < m := Nat.div_lt_self (by omega) hb
    exact h1 m hm h (ih (m / b) hlt (by omega))
theorem zdj {b : Nat} (hb : 2 <= b) (m : Nat) (hm : m < 1099511627776) : zde b m ≠ [] :=
 zdi hb (fun _ l => l ≠ []) (fun _ _ => by simp) (fun _ _ _ _ => by simp) m hm
theorem zdk {b : Nat} (hb : 2 <= b) (hb2 : b <= 16) (m : Nat) (hm : m < 1099511627776) : zqf b 0 (zde b m) = m := by
 refine zdi hb (fun m l => zqf b 0 l = m) (fun m h => ?_) (fun m _ h ih => ?_) m hm
 ·simp [zqf, (zdc (show m < 16 by omega)).1]
 ·have hlt : m % b < b := Nat.mod_lt _ (by omega)
  rw [zqg, ih, zqf, zqf, (zdc (show m % b < 16 by omega)).1]
  exact Nat.div_add_mod' m b
theorem zdl {b : Nat} (hb : 2 <= b) (hb2 : b <= 16) (p : UInt8 -> Bool) (hp : ∀ d, d < b -> p (zda d) = true) (m : Nat) (hm : m < 1099511627776) : (zde b m).all p = true := by
 refine zdi hb (fun m l => l.all p = true) (fun m h => ?_) (fun m _ h ih => ?_) m hm
 ·simp [hp m h]
 ·rw [List.all_append, ih]; simp [hp (m % b) (Nat.mod_lt _ (by omega))]
theorem zdm {b : Nat} (hb : 2 <= b) (hb2 : b <= 16) (m : Nat) (hm : m < 1099511627776) : (zde b m).all (fun c => decide (zqe c < b)) = true :=
 zdl hb hb2 _ (fun d hd => jT (by rw [(zdc (by omega)).1]; exact hd)) m hm
end

section
open Go.RowKit
set_option maxHeartbeats 16000000
def znp (l : List UInt8) : Option Nat := if (1 <= l.length /\ l.length <= 4) /\ l.all (fun c => decide (zqe c < 16)) = true then some (zqf 16 0 l) else none
def znq : List (List UInt8) -> Bool -> Option (List Nat)
 | [], _ => some []
 | [x], last => match (if last then zqo x else none) with
   | some v => some [v / 65536, v % 65536]
   | none => match znp x with
     | some g => some [g]
     | none => none
 | x :: y :: r, last => match znp x with
   | none => none
   | some g => match znq (y :: r) last with
     | none => none
     | some m => some (g :: m)
def znr (l : List UInt8) (last : Bool) : Option (List Nat) := if l = [] then some [] else znq (z3b 58 l) last
def zns : List UInt8 -> Nat -> Option Nat
 | [], _ => none
 | [_], _ => none
 | a :: b :: r, i => if a = 58 /\ b = 58 then some i else zns (b :: r) (i + 1)
def znt (n : Nat) : List Nat := List.replicate n 0
def znu (l : List UInt8) : Option (List Nat) := match zns l 0 with
 | none => match znr l true with
   | some g => if g.length = 8 then some g else none
   | none => none
 | some k => match znr (l.take k) false with
   | none => none
   | some g => match znr (l.drop (k + 2)) true with
     | none => none
     | some h => if g.length + h.length <= 7 then some (g ++ (znt (8 - g.length - h.length) ++ h)) else none
def znv (v : Nat) : List UInt8 := zde 16 v
def znw (l : List Nat) : Nat := (l.takeWhile fun x => x == 0).length
def znx (a : List Nat) (st : Int × Nat) (i : Nat) : Int × Nat := if st.2 < znw (a.drop i) then ((i : Int), znw (a.drop i)) else st
def zny (a : List Nat) (k : Nat) : Int × Nat := (List.range k).foldl (znx a) (-1, 1)
def znz (a : List Nat) (at_ : Int) (m k : Nat) : List UInt8 := if at_ < 0 \/ (k : Int) <= at_ then z3k 58 ((a.take k).map znv) else z3k 58 ((a.take at_.toNat).map znv) ++ 58 :: 58 :: z3k 58 (((a.take k).drop (at_.toNat + m)).map znv)
def zn0 (a : List Nat) : List UInt8 := znz a (zny a 8).1 (zny a 8).2 8
theorem zn1 (a : List Nat) (k : Nat) : zny a (k + 1) = znx a (zny a k) k := by
 unfold zny
 rw [List.range_succ, List.foldl_append]; rfl
theorem zn2 (l : List Nat) : znw l <= l.length := by
 unfold znw
 induction l with
 | nil => simp
 | cons x r ih => rw [List.takeWhile_cons]; split <;> simp; omega
theorem zn3 (l : List Nat) : l.take (znw l) = znt (znw l) := by
 induction l with
 | nil => rfl
 | cons x r ih =>
   unfold znw at ih ⊢
   rw [List.takeWhile_cons]
   by_cases h : (x == 0) = true
   ·rw [if_pos h]
    have : x = 0 := by simpa using h
    subst this
    rw [List.length_cons, List.take_succ_cons, ih]; rfl
   ·rw [if_neg h]; rfl
theorem zn4 (a : List Nat) : ∀ k, (zny a k = (-1, 1)) \/ (∃ i m, i < k /\ zny a k = ((i : Int), m) /\ 2 <= m /\ m = znw (a.drop i))
 | 0 => .inl rfl
 | k + 1 => by
   rw [zn1]
   unfold znx
   split
   ·rename_i h
    refine .inr ⟨k, _, by omega, rfl, ?_, rfl⟩
    rcases zn4 a k with e | ⟨i, m, _, e, h2, _⟩
    ·rw [e] at h; simp only at h; omega
    ·rw [e] at h; simp only at h; omega
   ·rcases zn4 a k with e | ⟨i, m, hi, e, h2⟩
    ·exact .inl e
    ·exact .inr ⟨i, m, by omega, e, h2⟩
theorem zn5 : ∀ (l : List UInt8) (i : Nat), zns l i = (zns l 0).map (· + i)
 | [], _ => rfl
 | [_], _ => rfl
 | a :: b :: r, i => by
   unfold zns
   split
   ·simp
   ·rw [zn5 (b :: r) (i + 1), zn5 (b :: r) (0 + 1)]
    cases zns (b :: r) 0 with
    | none => rfl
    | some x => simp; omega
theorem zn6 : ∀ (l r : List UInt8) (i : Nat), zns l i = none -> l.getLast? ≠ some 58 -> zns (l ++ 58 :: 58 :: r) i = some (i + l.length)
 | [], r, i, _, _ => by simp [zns]
 | [x], r, i, _, h => by
   have hx : x ≠ 58 := by simpa using h
   rw [List.cons_append, List.nil_append, zns, if_neg (fun e => hx e.1), zns, if_pos ⟨rfl, rfl⟩]; rfl
 | x :: y :: l, r, i, h, h2 => by
   have hne : ¬ (x = 58 /\ y = 58) := by
    intro e
    rw [zns, if_pos e] at h
    cases h
   rw [zns, if_neg hne] at h
   have h3 : (y :: l).getLast? ≠ some 58 := by rwa [List.getLast?_cons_cons] at h2
   have ih := zn6 (y :: l) r (i + 1) h h3
   rw [List.cons_append, List.cons_append, zns, if_neg hne]
   rw [List.cons_append] at ih
   rw [ih]
   simp; omega
theorem zn7 : ∀ (a m : List UInt8) (i : Nat), noB 58 a -> m.head? ≠ some 58 -> zns m (i + a.length + 1) = none -> zns (a ++ 58 :: m) i = none
 | [], [], i, _, _, _ => rfl
 | [], c :: m, i, _, h, h2 => by
   have hc : c ≠ 58 := by simpa using h
   rw [List.nil_append, zns, if_neg (fun e => hc e.2)]
   simpa using h2
 | [x], m, i, ha, h, h2 => by
   have hx : x ≠ 58 := ha x (by simp)
   rw [List.cons_append, List.nil_append, zns, if_neg (fun e => hx e.1)]
   have := zn7 [] m (i + 1) (by intro b hb; simp at hb) h (by simpa using h2)
   simpa using this
 | x :: y :: a, m, i, ha, h, h2 => by
   have hx : x ≠ 58 := ha x (by simp)
   rw [List.cons_append, List.cons_append, zns, if_neg (fun e => hx e.1)]
   have := zn7 (y :: a) m (i + 1) (fun b hb => ha b (by simp at hb ⊢; exact .inr hb)) h (by
    have e : i + 1 + (y :: a).length + 1 = i + (x :: y :: a).length + 1 := by simp; omega
    rw [e]; exact h2)
   simpa using this
theorem zn8 : ∀ (a : List UInt8) (i : Nat), noB 58 a -> zns a i = none
 | [], _, _ => rfl
 | [_], _, _ => rfl
 | x :: y :: a, i, h => by
   rw [zns, if_neg (fun e => h x (by simp) e.1)]
   exact zn8 (y :: a) (i + 1) (fun b hb => h b (by simp at hb ⊢; exact .inr hb))
def zn9 (P : List (List UInt8)) : Prop := ∀ x ∈ P, x ≠ [] /\ noB 58 x
theorem zn9.tail {x : List UInt8} {P : List (List UInt8)} (h : zn9 (x :: P)) : zn9 P := fun y hy => h y (by simp [hy])
theorem zoa {P : List (List UInt8)} (h : zn9 P) : (z3k 58 P).head? ≠ some 58 := by
 match P, h with
 | [], _ => simp [z3k]
 | [a], h =>
   obtain ⟨h1, h2⟩ := h a (by simp)
   cases a with
   | nil => exact absurd rfl h1
   | cons c r => simpa [z3k] using h2 c (by simp)
 | a :: b :: r, h =>
   obtain ⟨h1, h2⟩ := h a (by simp)
   cases a with
   | nil => exact absurd rfl h1
   | cons c r => simpa [z3k] using h2 c (by simp)
theorem zob {P : List (List UInt8)} (h : zn9 P) (hP : P ≠ []) : z3k 58 P ≠ [] := by
 match P, h with
 | [a], h => exact (h a (by simp)).1
 | a :: b :: r, h => simp [z3k]
theorem zoc {P : List (List UInt8)} (h : zn9 P) : (z3k 58 P).getLast? ≠ some 58 := by
 induction P with
 | nil => simp [z3k]
 | cons a r ih =>
   cases r with
   | nil =>
     obtain ⟨h1, h2⟩ := h a (by simp)
     rw [z3k]
     intro e
     have := List.mem_of_getLast? e
     exact h2 58 this rfl
   | cons b r =>
     have h3 := ih h.tail
     have h4 := zob h.tail (by simp)
     rw [z3k]
     rw [List.getLast?_append, List.getLast?_cons]
     cases hx : (z3k 58 (b :: r)).getLast? with
     | none => exact absurd (List.getLast?_eq_none_iff.1 hx) h4
     | some y => rw [hx] at h3; simpa using h3
theorem zod {P : List (List UInt8)} (h : zn9 P) : ∀ i, zns (z3k 58 P) i = none := by
 induction P with
 | nil => intro i; rfl
 | cons a r ih =>
   intro i
   cases r with
   | nil => exact zn8 a i (h a (by simp)).2
   | cons b r =>
     rw [z3k]
     exact zn7 a _ i (h a (by simp)).2 (zoa h.tail) (ih h.tail _)
theorem zoe {P : List (List UInt8)} (h : zn9 P) (hP : P ≠ []) : z3b 58 (z3k 58 P) = P := z3o 58 P hP (fun a ha => (h a ha).2)
theorem zof {P : List (List UInt8)} (h : zn9 P) (last : Bool) : znr (z3k 58 P) last = znq P last := by
 unfold znr
 by_cases hP : P = []
 ·subst hP; rfl
 ·rw [if_neg (zob h hP), zoe h hP]
theorem zog {P : List (List UInt8)} (h : zn9 P) {g : List Nat} (hg : znq P true = some g) (hl : g.length = 8) : znu (z3k 58 P) = some g := by
 unfold znu
 rw [zod h 0]
 simp only
 rw [zof h, hg]
 simp only
 rw [if_pos hl]
theorem zoh {P Q : List (List UInt8)} (hP : zn9 P) (hQ : zn9 Q) {g q : List Nat} (hg : znq P false = some g) (hq : znq Q true = some q) (hl : g.length + q.length <= 7) :
 znu (z3k 58 P ++ 58 :: 58 :: z3k 58 Q) = some (g ++ (znt (8 - g.length - q.length) ++ q)) := by
 unfold znu
 rw [zn6 _ _ 0 (zod hP 0) (zoc hP)]
 simp only [Nat.zero_add]
 have e1 : (z3k 58 P ++ 58 :: 58 :: z3k 58 Q).take (z3k 58 P).length = z3k 58 P := by rw [List.take_append_of_le_length jH, List.take_length]
 have e2 : (z3k 58 P ++ 58 :: 58 :: z3k 58 Q).drop ((z3k 58 P).length + 2) = z3k 58 Q := by
  rw [<- List.drop_drop, List.drop_append_of_le_length jH, List.drop_length]; rfl
 rw [e1, e2, zof hP, hg]
 simp only
 rw [zof hQ, hq]
 simp only
 rw [if_pos hl]
def zoi (P : List (List UInt8)) (g : List Nat) : Prop := P.map znp = g.map some
theorem zoj {x : List UInt8} {g : Nat} (h : znp x = some g) : zqo x = none := by
 cases hp : zqo x with
 | none => rfl
 | some v =>
   have hx := (zrd hp).2
   unfold znp at h
   split at h
   ·rename_i hc
    have h46 : (46 : UInt8) ∈ x := by rw [hx]; unfold zqp; simp [z3k]
    have := List.all_eq_true.1 hc.2 46 h46
    exact absurd this (by decide)
   ·cases h
theorem zok : ∀ (P : List (List UInt8)) (g : List Nat) (last : Bool), zoi P g -> znq P last = some g
 | [], g, _, h => by
   unfold zoi at h
   have : g = [] := by cases g with
    | nil => rfl
    | cons => simp at h
   subst this; rfl
 | [x], g, last, h => by
   unfold zoi at h
   match g, h with
   | [y], h =>
     have hx : znp x = some y := by simpa using h
     have h4 := zoj hx
     rw [znq]
     have : (if last = true then zqo x else none) = none := by split <;> simp [h4]
     rw [this, hx]
   | _ :: _ :: _, h => simp at h
 | x :: y :: r, g, last, h => by
   unfold zoi at h
   match g, h with
   | z :: g, h =>
     have hx : znp x = some z := by simp at h; exact h.1
     have hr : zoi (y :: r) g := by unfold zoi; simp at h ⊢; exact h.2
     rw [znq, hx, zok (y :: r) g last hr]
theorem zoi.append {P Q : List (List UInt8)} {g q : List Nat} (h : zoi P g) (h2 : zoi Q q) : zoi (P ++ Q) (g ++ q) := by
 unfold zoi at h h2 ⊢
 rw [List.map_append, List.map_append, h, h2]
theorem zol (v : Nat) (hv : v < 65536) : 1 <= (znv v).length /\ (znv v).length <= 4 := by
 have h0 := zdj (b := 16) (by omega) v (by omega)
 refine ⟨List.length_pos_iff.2 h0, ?_⟩
 have key : ∀ (k m : Nat), m < 16 ^ (k + 1) -> m < 1099511627776 -> (zde 16 m).length <= k + 1 := by
  intro k
  induction k with
  | zero => intro m h _; rw [zdg (by simpa using h)]; simp
  | succ k ih =>
    intro m h hm
    by_cases hs : m < 16
    ·rw [zdg hs]; simp
    ·rw [zdh (by omega) hm hs, List.length_append]
     have := ih (m / 16) (by rw [Nat.pow_succ] at h; omega) (by omega)
     simp; omega
 exact key 3 v (by have : (16 : Nat) ^ (3 + 1) = 65536 := by decide
                   omega) (by omega)
theorem zom (v : Nat) (hv : v < 65536) : znp (znv v) = some v := by
 unfold znp
 rw [if_pos ⟨zol v hv, zdm (by omega) (by omega) v (by omega)⟩]
 unfold znv
 rw [zdk (by omega) (by omega) v (by omega)]
theorem zon : ∀ d : Fin 16, zda d.val ≠ 58 := by decide +kernel
theorem zoo (v : Nat) (hv : v < 65536) : noB 58 (znv v) := by
 have h := zdl (b := 16) (by omega) (by omega) (fun c => decide (c ≠ 58)) (fun d hd => jT (zon ⟨d, hd⟩)) v (by omega)
 rw [List.all_eq_true] at h
 intro c hc
 exact of_decide_eq_true (h c hc)
theorem zop (v : Nat) (hv : v < 65536) : znv v ≠ [] := zdj (by omega) v (by omega)
def G16 (a : List Nat) : Prop := ∀ x ∈ a, x < 65536
theorem G16.cols {a : List Nat} (h : G16 a) : zn9 (a.map znv) := by
 intro x hx
 obtain ⟨v, hv, rfl⟩ := List.mem_map.1 hx
 exact ⟨zop v (h v hv), zoo v (h v hv)⟩
theorem G16.grps {a : List Nat} (h : G16 a) : zoi (a.map znv) a := by
 unfold zoi
 rw [List.map_map]
 exact List.map_congr_left fun v hv => zom v (h v hv)
theorem G16.take {a : List Nat} (h : G16 a) (k : Nat) : G16 (a.take k) := fun x hx => h x (List.mem_of_mem_take hx)
theorem G16.drop {a : List Nat} (h : G16 a) (k : Nat) : G16 (a.drop k) := fun x hx => h x (List.mem_of_mem_drop hx)
theorem zoq (a : List Nat) (h : G16 a) (hl : a.length = 8) : znu (zn0 a) = some a := by
 unfold zn0 znz
 rcases zn4 a 8 with e | ⟨i, m, hi, e, h2, hm⟩
 ·rw [e]
  simp only
  rw [if_pos (.inl (by decide)), List.take_of_length_le (by omega)]
  exact zog h.cols (zok _ _ _ h.grps) hl
 ·rw [e]
  simp only
  have hmz := zn2 (a.drop i)
  rw [<- hm, List.length_drop] at hmz
  rw [if_neg (by omega), Int.toNat_natCast, List.take_of_length_le (by omega : a.length <= 8)]
  have hp := zoh (h.take i).cols (h.drop (i + m)).cols (zok _ _ false (h.take i).grps) (zok _ _ true (h.drop (i + m)).grps) (by simp; omega)
  rw [hp]
  congr 1
  have hz := zn3 (a.drop i)
  rw [<- hm] at hz
  have e1 : 8 - (a.take i).length - (a.drop (i + m)).length = m := by simp; omega
  rw [e1, <- hz, <- List.drop_drop, List.take_append_drop, List.take_append_drop]
end

end Go.Proofs.YtekaljeicfjkjaaGreatDoor
