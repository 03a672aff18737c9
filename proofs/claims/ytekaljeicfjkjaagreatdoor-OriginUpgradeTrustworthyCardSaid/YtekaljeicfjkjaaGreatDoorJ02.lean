/-
Text in UTF-8 in plain words: its code points, and back; small letters. No program.
Labels in plain words: canonical labels, ToASCII, ToUnicode, and their laws. No program.
Plain mathematics of package seconds (layer 4): no program.
Splitting at a byte: no program.
IPv4 addresses in plain words: no program.
-/
import Derived.Test.YtekaljeicfjkjaaGreatDoorJ01
import Derived.Lib.ItoaNum
namespace Go.Proofs.YtekaljeicfjkjaaGreatDoor
section
open Go.RowKit
set_option maxHeartbeats 16000000
def yad (b : Nat) : Option (Nat × Nat × Nat) :=
 if b < 128 then some (0, b, 0) else if 194 <= b /\ b < 224 then some (1, b - 192, 128) else if 224 <= b /\ b < 240 then some (2, b - 224, 2048)
 else if 240 <= b /\ b < 245 then some (3, b - 240, 65536) else none
def yae : Nat -> Nat -> List UInt8 -> Option Nat
 | 0, v, _ => some v
 | _ + 1, _, [] => none
 | k + 1, v, c :: l => if 128 <= c.toNat /\ c.toNat <= 191 then yae k (v * 64 + c.toNat - 128) l else none
def yaf (b : UInt8) (l : List UInt8) : Option (Nat × Nat) := match yad b.toNat with
 | none => none
 | some (k, v, least) => match yae k v l with
   | none => none
   | some u => if u < least \/ ptN u = false then none else some (u, k)
def yag : Nat -> List UInt8 -> Option (List Nat)
 | _, [] => some []
 | 0, _ :: _ => none
 | f + 1, b :: l => match yaf b l with
   | none => none
   | some (u, k) => (yag f (l.drop k)).map (u :: ·)
def yah (l : List UInt8) : Option (List Nat) := yag l.length l
def yai (p : Nat) : List UInt8 :=
 if p < 128 then [UInt8.ofNat p] else if p < 2048 then [UInt8.ofNat (192 + p / 64), UInt8.ofNat (128 + p % 64)]
 else if p < 65536 then [UInt8.ofNat (224 + p / 4096), UInt8.ofNat (128 + p / 64 % 64), UInt8.ofNat (128 + p % 64)]
 else [UInt8.ofNat (240 + p / 262144), UInt8.ofNat (128 + p / 4096 % 64), UInt8.ofNat (128 + p / 64 % 64), UInt8.ofNat (128 + p % 64)]
def yaj (P : List Nat) : List UInt8 := P.flatMap yai
theorem of8 {x : Nat} (h : x < 256) : (UInt8.ofNat x).toNat = x := by
 rw [UInt8.toNat_ofNat']
 omega
theorem yak : ∀ (k v : Nat) (l : List UInt8) (u : Nat), yae k v l = some u -> k <= l.length
 | 0, _, _, _, _ => Nat.zero_le _
 | k + 1, _, [], _, h => by simp [yae] at h
 | k + 1, v, c :: l, u, h => by
   rw [yae] at h
   split at h
   ·have := yak k _ l u h
    simp
    omega
   ·cases h
theorem yal : ∀ (f g : Nat) (l : List UInt8), l.length <= f -> l.length <= g -> yag f l = yag g l
 | f, g, [], _, _ => by cases f <;> cases g <;> rfl
 | 0, g, b :: l, h, _ => by simp at h
 | f, 0, b :: l, _, h => by simp at h
 | f + 1, g + 1, b :: l, hf, hg => by
   rw [yag, yag]
   cases yaf b l with
   | none => rfl
   | some x =>
     obtain ⟨u, k⟩ := x
     show (yag f (l.drop k)).map _ = (yag g (l.drop k)).map _
     rw [yal f g (l.drop k) (by simp at hf ⊢; omega) (by simp at hg ⊢; omega)]
theorem yam (b : UInt8) (l : List UInt8) : yah (b :: l) = match yaf b l with
 | none => none
 | some (u, k) => (yah (l.drop k)).map (u :: ·) := by
 unfold yah
 rw [List.length_cons, yag]
 cases yaf b l with
 | none => rfl
 | some x =>
   obtain ⟨u, k⟩ := x
   show (yag l.length (l.drop k)).map _ = (yag (l.drop k).length (l.drop k)).map _
   rw [yal l.length (l.drop k).length (l.drop k) (by simp) jH]
theorem yan : yah [] = some [] := rfl
theorem yao {p : Nat} (hp : ptN p = true) (r : List UInt8) : ∃ b x, yai p = b :: x /\ yaf b (x ++ r) = some (p, x.length) := by
 have hle := zyz hp
 unfold yai
 by_cases h1 : p < 128
 ·rw [if_pos h1]
  refine ⟨_, _, rfl, ?_⟩
  unfold yaf yad
  rw [of8 (by omega), if_pos h1]
  simp [yae, hp]
 ·rw [if_neg h1]
  by_cases h2 : p < 2048
  ·rw [if_pos h2]
   refine ⟨_, _, rfl, ?_⟩
   unfold yaf yad
   rw [of8 (by omega), if_neg (by omega), if_pos (by omega)]
   simp only [List.cons_append, List.nil_append, yae]
   rw [of8 (by omega), if_pos (by omega)]
   have e : (192 + p / 64 - 192) * 64 + (128 + p % 64) - 128 = p := by omega
   rw [e]
   simp only []
   rw [if_neg (by rw [hp]; simp; omega)]
   rfl
  ·rw [if_neg h2]
   by_cases h3 : p < 65536
   ·rw [if_pos h3]
    refine ⟨_, _, rfl, ?_⟩
    unfold yaf yad
    rw [of8 (by omega), if_neg (by omega), if_neg (by omega), if_pos (by omega)]
    simp only [List.cons_append, List.nil_append, yae]
    rw [of8 (by omega), of8 (by omega), if_pos (by omega), if_pos (by omega)]
    have e : ((224 + p / 4096 - 224) * 64 + (128 + p / 64 % 64) - 128) * 64 + (128 + p % 64) - 128 = p := by omega
    rw [e]
    simp only []
    rw [if_neg (by rw [hp]; simp; omega)]
    rfl
   ·rw [if_neg h3]
    refine ⟨_, _, rfl, ?_⟩
    unfold yaf yad
    rw [of8 (by omega), if_neg (by omega), if_neg (by omega), if_neg (by omega), if_pos (by omega)]
    simp only [List.cons_append, List.nil_append, yae]
    rw [of8 (by omega), of8 (by omega), of8 (by omega), if_pos (by omega), if_pos (by omega), if_pos (by omega)]
    have e : (((240 + p / 262144 - 240) * 64 + (128 + p / 4096 % 64) - 128) * 64 + (128 + p / 64 % 64) - 128) * 64 + (128 + p % 64) - 128 = p := by omega
    rw [e]
    simp only []
    rw [if_neg (by rw [hp]; simp; omega)]
    rfl
theorem yap : ∀ (P : List Nat), (∀ p ∈ P, ptN p = true) -> yah (yaj P) = some P
 | [], _ => rfl
 | p :: P, h => by
   obtain ⟨b, x, e, ho⟩ := yao (h p (by simp)) (yaj P)
   have ih := yap P (fun q hq => h q (by simp [hq]))
   show yah (yai p ++ yaj P) = _
   rw [e, List.cons_append, yam, ho]
   show (yah ((x ++ yaj P).drop x.length)).map _ = _
   rw [List.drop_left, ih]
   rfl
theorem yaq : ∀ (k v : Nat) (l : List UInt8) (u : Nat), yae k v l = some u -> ∃ x, x.length = k /\ l = x ++ l.drop k /\ (∀ c ∈ x, 128 <= c.toNat /\ c.toNat <= 191) /\ u = x.foldl (fun a c => a * 64 + c.toNat - 128) v
 | 0, v, l, u, h => ⟨[], rfl, rfl, (fun c hc => by simp at hc), by injection h with h; exact h.symm⟩
 | k + 1, _, [], _, h => by simp [yae] at h
 | k + 1, v, c :: l, u, h => by
   rw [yae] at h
   split at h
   ·rename_i hc
    obtain ⟨x, h1, h2, h3, h4⟩ := yaq k _ l u h
    have h5 : c :: l = c :: (x ++ l.drop k) := congrArg (List.cons c) h2
    refine ⟨c :: x, by simp [h1], h5, ?_, by rw [List.foldl_cons]; exact h4⟩
    intro d hd
    rcases List.mem_cons.1 hd with rfl | hd
    ·exact hc
    ·exact h3 d hd
   ·cases h
theorem yar {c : UInt8} {n : Nat} (h : c.toNat = n) : UInt8.ofNat n = c := by
 rw [<- h]
 exact UInt8.ofNat_toNat
theorem yas {x : List UInt8} (h : x.length = 1) : ∃ c, x = [c] := by
 match x, h with
 | [c], _ => exact ⟨c, rfl⟩
theorem yat {x : List UInt8} (h : x.length = 2) : ∃ c d, x = [c, d] := by
 match x, h with
 | [c, d], _ => exact ⟨c, d, rfl⟩
theorem yau {x : List UInt8} (h : x.length = 3) : ∃ c d e, x = [c, d, e] := by
 match x, h with
 | [c, d, e], _ => exact ⟨c, d, e, rfl⟩
theorem yav {b : UInt8} {l : List UInt8} {u k : Nat} (h : yaf b l = some (u, k)) : ptN u = true /\ k <= l.length /\ yai u ++ l.drop k = b :: l := by
 unfold yaf at h
 cases hL : yad b.toNat with
 | none => rw [hL] at h; cases h
 | some q =>
   obtain ⟨k', v, least⟩ := q
   rw [hL] at h
   simp only [] at h
   cases hC : yae k' v l with
   | none => rw [hC] at h; cases h
   | some u' =>
     rw [hC] at h
     simp only [] at h
     split at h
     ·cases h
     ·rename_i hno
      injection h with h
      injection h with e1 e2
      subst e1 e2
      have hpt : ptN u' = true := by cases hh : ptN u' with
       | true => rfl
       | false => exact absurd (.inr hh) hno
      have hls : least <= u' := by
       by_cases hlt : u' < least
       ·exact absurd (.inl hlt) hno
       ·omega
      refine ⟨hpt, yak _ _ _ _ hC, ?_⟩
      obtain ⟨x, hx, hl, hr, hu⟩ := yaq _ _ _ _ hC
      have hb := b.toNat_lt
      suffices hs : yai u' = b :: x by rw [hs, List.cons_append, <- hl]
      clear hC hno hl
      unfold yad at hL
      split at hL
      ·rename_i h1
       obtain ⟨e1, e23⟩ := Prod.mk.inj (Option.some.inj hL)
       obtain ⟨e2, e3⟩ := Prod.mk.inj e23
       subst e1 e2 e3
       obtain rfl : x = [] := List.eq_nil_of_length_eq_zero hx
       have hu' : u' = b.toNat := hu
       unfold yai
       rw [if_pos (by omega), hu', UInt8.ofNat_toNat]
      ·rename_i h1
       split at hL
       ·rename_i h2
        obtain ⟨e1, e23⟩ := Prod.mk.inj (Option.some.inj hL)
        obtain ⟨e2, e3⟩ := Prod.mk.inj e23
        subst e1 e2 e3
        obtain ⟨c, rfl⟩ := yas hx
        have r1 := hr c (by simp)
        have hu' : u' = (b.toNat - 192) * 64 + c.toNat - 128 := hu
        unfold yai
        rw [if_neg (by omega), if_pos (by omega), yar (c := b) (by omega), yar (c := c) (by omega)]
       ·rename_i h2
        split at hL
        ·rename_i h3
         obtain ⟨e1, e23⟩ := Prod.mk.inj (Option.some.inj hL)
         obtain ⟨e2, e3⟩ := Prod.mk.inj e23
         subst e1 e2 e3
         obtain ⟨c, d, rfl⟩ := yat hx
         have r1 := hr c (by simp)
         have r2 := hr d (by simp)
         have hu' : u' = ((b.toNat - 224) * 64 + c.toNat - 128) * 64 + d.toNat - 128 := hu
         unfold yai
         rw [if_neg (by omega), if_neg (by omega), if_pos (by omega), yar (c := b) (by omega), yar (c := c) (by omega), yar (c := d) (by omega)]
        ·rename_i h3
         split at hL
         ·rename_i h4
          obtain ⟨e1, e23⟩ := Prod.mk.inj (Option.some.inj hL)
          obtain ⟨e2, e3⟩ := Prod.mk.inj e23
          subst e1 e2 e3
          obtain ⟨c, d, f, rfl⟩ := yau hx
          have r1 := hr c (by simp)
          have r2 := hr d (by simp)
          have r3 := hr f (by simp)
          have hu' : u' = (((b.toNat - 240) * 64 + c.toNat - 128) * 64 + d.toNat - 128) * 64 + f.toNat - 128 := hu
          have hle := zyz hpt
          unfold yai
          rw [if_neg (by omega), if_neg (by omega), if_neg (by omega), yar (c := b) (by omega), yar (c := c) (by omega), yar (c := d) (by omega), yar (c := f) (by omega)]
         ·cases hL
theorem yaw : ∀ (f : Nat) (l : List UInt8) (P : List Nat), yag f l = some P -> (∀ p ∈ P, ptN p = true) /\ yaj P = l
 | f, [], P, h => by
   have : P = [] := by cases f <;> (injection h with h; exact h.symm)
   subst this
   exact ⟨fun p hp => by simp at hp, rfl⟩
 | 0, b :: l, P, h => by simp [yag] at h
 | f + 1, b :: l, P, h => by
   rw [yag] at h
   cases ho : yaf b l with
   | none => rw [ho] at h; cases h
   | some x =>
     obtain ⟨u, k⟩ := x
     rw [ho] at h
     simp only [] at h
     cases hg : yag f (l.drop k) with
     | none => rw [hg] at h; cases h
     | some Q =>
       rw [hg] at h
       injection h with h
       subst h
       obtain ⟨i1, i2⟩ := yaw f _ Q hg
       obtain ⟨o1, _, o3⟩ := yav ho
       refine ⟨?_, ?_⟩
       ·intro p hp
        rcases List.mem_cons.1 hp with rfl | hp
        ·exact o1
        ·exact i1 p hp
       ·show yai u ++ yaj Q = _
        rw [i2, o3]
theorem yax {l : List UInt8} {P : List Nat} (h : yah l = some P) : (∀ p ∈ P, ptN p = true) /\ yaj P = l := yaw _ l P h
theorem yay (p : Nat) : 1 <= (yai p).length /\ (128 <= p -> 2 <= (yai p).length) /\ (p < 128 -> (yai p).length = 1) /\ (yai p).length <= 4 := by
 unfold yai
 split
 ·exact ⟨jH, fun _ => by omega, fun _ => rfl, by simp⟩
 ·split
  ·exact ⟨by simp, fun _ => by simp, fun _ => by omega, by simp⟩
  ·split
   ·exact ⟨by simp, fun _ => by simp, fun _ => by omega, by simp⟩
   ·exact ⟨by simp, fun _ => by simp, fun _ => by omega, by simp⟩
theorem yaz : ∀ (P : List Nat), P.length <= (yaj P).length /\ ((∃ p ∈ P, 128 <= p) -> P.length < (yaj P).length) /\ ((∀ p ∈ P, p < 128) -> P.length = (yaj P).length)
 | [] => ⟨jH, (fun ⟨p, hp, _⟩ => by simp at hp), fun _ => rfl⟩
 | p :: P => by
   obtain ⟨i1, i2, i3⟩ := yaz P
   obtain ⟨a1, a2, a3, _⟩ := yay p
   have e : (yaj (p :: P)).length = (yai p).length + (yaj P).length := by
    show (yai p ++ yaj P).length = _
    rw [List.length_append]
   rw [e, List.length_cons]
   refine ⟨by omega, ?_, ?_⟩
   ·rintro ⟨q, hq, h⟩
    rcases List.mem_cons.1 hq with rfl | hq
    ·have := a2 h; omega
    ·have := i2 ⟨q, hq, h⟩; omega
   ·intro h
    have h1 := a3 (h p (by simp))
    have h2 := i3 (fun q hq => h q (by simp [hq]))
    omega
theorem ya0 : ∀ (l : List UInt8), (∀ b ∈ l, b.toNat < 128) -> yaj (l.map UInt8.toNat) = l
 | [], _ => rfl
 | b :: l, h => by
   show yai b.toNat ++ yaj (l.map UInt8.toNat) = _
   rw [ya0 l (fun c hc => h c (by simp [hc]))]
   unfold yai
   rw [if_pos (h b (by simp)), UInt8.ofNat_toNat]
   rfl
theorem ya1 {n : Nat} (h : n < 128) : ptN n = true := by
 unfold ptN
 simp
 omega
theorem ya2 {l : List UInt8} (h : ∀ b ∈ l, b.toNat < 128) : yah l = some (l.map UInt8.toNat) := by
 have h2 := yap (l.map UInt8.toNat) (fun p hp => by obtain ⟨b, hb, rfl⟩ := List.mem_map.1 hp; exact ya1 (h b hb))
 rw [ya0 l h] at h2
 exact h2
def ya3 (p : Nat) : Nat := if 65 <= p /\ p <= 90 then p + 32 else p
theorem ya4 {b : UInt8} (h : b.toNat < 65 \/ 90 < b.toNat) : zbf b = b := by
 refine UInt8.toNat_inj.1 ?_
 have := zbh b
 unfold zbd zbb at this
 have hb : (decide (65 <= (b.toNat : Int)) && decide ((b.toNat : Int) <= 90)) = false := by simp; omega
 rw [hb] at this
 simp at this
 omega
theorem ya5 {b : UInt8} (h : 65 <= b.toNat /\ b.toNat <= 90) : (zbf b).toNat = b.toNat + 32 := by
 have := zbh b
 unfold zbd zbb at this
 have hb : (decide (65 <= (b.toNat : Int)) && decide ((b.toNat : Int) <= 90)) = true := by simp; omega
 rw [hb] at this
 simp at this
 omega
theorem ya6 : ∀ (k v : Nat) (l : List UInt8), yae k v (zbk l) = yae k v l
 | 0, _, _ => rfl
 | _ + 1, _, [] => rfl
 | k + 1, v, c :: l => by
   show (if 128 <= (zbf c).toNat /\ (zbf c).toNat <= 191 then yae k (v * 64 + (zbf c).toNat - 128) (zbk l) else none) = _
   rw [ya6, yae]
   by_cases h : 65 <= c.toNat /\ c.toNat <= 90
   ·have := ya5 h
    rw [if_neg (by omega), if_neg (by omega)]
   ·rw [ya4 (by omega)]
theorem ya7 {p : Nat} (h : ptN p = true) : ptN (ya3 p) = true := by
 unfold ya3
 split
 ·exact ya1 (by omega)
 ·exact h
theorem ya8 (b : UInt8) (l : List UInt8) : yaf (zbf b) (zbk l) = (yaf b l).map fun x => (ya3 x.1, x.2) := by
 unfold yaf
 by_cases h : 65 <= b.toNat /\ b.toNat <= 90
 ·have hb := ya5 h
  have l1 : yad (zbf b).toNat = some (0, b.toNat + 32, 0) := by unfold yad; rw [hb, if_pos (by omega)]
  have l2 : yad b.toNat = some (0, b.toNat, 0) := by unfold yad; rw [if_pos (by omega)]
  rw [l1, l2]
  simp only [yae]
  rw [if_neg (by rw [ya1 (by omega)]; simp), if_neg (by rw [ya1 (by omega)]; simp)]
  show some (b.toNat + 32, 0) = some (ya3 b.toNat, 0)
  unfold ya3
  rw [if_pos h]
 ·rw [ya4 (by omega)]
  cases hL : yad b.toNat with
  | none => rfl
  | some q =>
    obtain ⟨k, v, least⟩ := q
    simp only [ya6]
    cases hC : yae k v l with
    | none => rfl
    | some u =>
      simp only []
      split
      ·rfl
      ·rename_i hno
       show some (u, k) = some (ya3 u, k)
       have hu : ya3 u = u := by
        unfold ya3
        rw [if_neg]
        intro hc
        unfold yad at hL
        split at hL
        ·obtain ⟨e1, e23⟩ := Prod.mk.inj (Option.some.inj hL)
         obtain ⟨e2, e3⟩ := Prod.mk.inj e23
         subst e1 e2 e3
         injection hC with hC
         omega
        ·have : 128 <= least := by
          split at hL
          ·have e3 := (Prod.mk.inj (Prod.mk.inj (Option.some.inj hL)).2).2; omega
          ·split at hL
           ·have e3 := (Prod.mk.inj (Prod.mk.inj (Option.some.inj hL)).2).2; omega
           ·split at hL
            ·have e3 := (Prod.mk.inj (Prod.mk.inj (Option.some.inj hL)).2).2; omega
            ·cases hL
         exact hno (.inl (by omega))
       rw [hu]
theorem ya9 : ∀ (f : Nat) (l : List UInt8), yag f (zbk l) = (yag f l).map (List.map ya3)
 | f, [] => by cases f <;> rfl
 | 0, b :: l => rfl
 | f + 1, b :: l => by
   show (match yaf (zbf b) (zbk l) with
    | none => none
    | some (u, k) => (yag f ((zbk l).drop k)).map (u :: ·)) = _
   rw [ya8, yag]
   cases yaf b l with
   | none => rfl
   | some x =>
     obtain ⟨u, k⟩ := x
     show (yag f ((zbk l).drop k)).map (ya3 u :: ·) = ((yag f (l.drop k)).map (u :: ·)).map (List.map ya3)
     have e : (zbk l).drop k = zbk (l.drop k) := by unfold zbk; rw [List.map_drop]
     rw [e, ya9 f (l.drop k)]
     cases yag f (l.drop k) with
     | none => rfl
     | some Q => rfl
theorem yba (l : List UInt8) : yah (zbk l) = (yah l).map (List.map ya3) := by
 unfold yah
 rw [zbm]
 exact ya9 _ l
theorem ybb (p : Nat) : ya3 (ya3 p) = ya3 p := by
 unfold ya3
 split
 ·rw [if_neg (by omega)]
 ·rfl
theorem ybc (P : List Nat) : (P.map ya3).map ya3 = P.map ya3 := by
 rw [List.map_map]
 exact List.map_congr_left fun p _ => ybb p
end

section
open Go.RowKit
set_option maxHeartbeats 16000000
def xnL : List UInt8 := [120, 110, 45, 45]
def okN (n : Nat) : Bool := (decide (97 <= n) && decide (n <= 122)) || (decide (48 <= n) && decide (n <= 57)) || n == 45 || n == 95
def zr4 (p : Nat) : Bool := decide (65 <= p) && decide (p <= 90)
def zr5 (r : List UInt8) : Bool := match zxp r with
 | .error _ => false
 | .ok p => p.any (fun x => decide (128 <= x)) && p.all (fun x => !zr4 x) && decide (zxs p = r)
def zr6 (l : List UInt8) : Bool := decide (l ≠ []) && decide (l.length <= 63) && decide (l.head? ≠ some 45) && decide (l.getLast? ≠ some 45)
def zr7 (l : List UInt8) : Bool := zr6 l && l.all (fun b => okN b.toNat) && (decide (l.take 4 ≠ xnL) || zr5 (l.drop 4))
def zr8 (l : List UInt8) (P : List Nat) : List UInt8 := if P.length < l.length then xnL ++ zxs (P.map ya3) else zbk l
def toA (l : List UInt8) : Nat × List UInt8 := match yah l with
 | none => (4, [])
 | some P => if 256 < P.length then (3, []) else if zr7 (zr8 l P) = true then (0, zr8 l P) else (14, [])
def zr9 (l : List UInt8) : List UInt8 := if l.take 4 = xnL then yaj (puV' (l.drop 4)) else l
where puV' (r : List UInt8) : List Nat := match zxp r with
 | .ok p => p
 | .error _ => []
def toU (l : List UInt8) : Nat × List UInt8 := if zr7 l = true then (0, zr9 l) else (14, [])
theorem zsa {n : Nat} (h : okN n = true) : n < 128 /\ ¬ (65 <= n /\ n <= 90) := by
 unfold okN at h
 simp only [Bool.or_eq_true, Bool.and_eq_true, decide_eq_true_eq, beq_iff_eq] at h
 omega
theorem zsb {l : List UInt8} (h : zr7 l = true) : (∀ b ∈ l, b.toNat < 128) /\ zbk l = l /\ l.length <= 63 := by
 unfold zr7 at h
 simp only [Bool.and_eq_true] at h
 have ha : ∀ b ∈ l, okN b.toNat = true := fun b hb => List.all_eq_true.1 h.1.2 b hb
 refine ⟨fun b hb => (zsa (ha b hb)).1, ?_, ?_⟩
 ·unfold zbk
  have : l.map zbf = l.map id := List.map_congr_left fun b hb => ya4 (by have := (zsa (ha b hb)).2; omega)
  rw [this, List.map_id]
 ·have := h.1.1
  unfold zr6 at this
  simp only [Bool.and_eq_true, decide_eq_true_eq] at this
  omega
theorem zsc {r : List UInt8} (h : zr5 r = true) : ∃ p, zxp r = .ok p /\ (∀ x ∈ p, ptN x = true) /\ p.length <= 256 /\ (∃ x ∈ p, 128 <= x) /\ p.map ya3 = p /\ zxs p = r := by
 unfold zr5 at h
 cases hd : zxp r with
 | error e => rw [hd] at h; cases h
 | ok p =>
   rw [hd] at h
   simp only [Bool.and_eq_true, decide_eq_true_eq] at h
   obtain ⟨⟨h1, h2⟩, h3⟩ := h
   obtain ⟨e1, e2, _, _⟩ := zx1 hd
   refine ⟨p, rfl, e1, e2, ?_, ?_, h3⟩
   ·obtain ⟨x, hx, hy⟩ := List.any_eq_true.1 h1
    exact ⟨x, hx, of_decide_eq_true hy⟩
   ·have : p.map ya3 = p.map id := List.map_congr_left fun x hx => by
     have := List.all_eq_true.1 h2 x hx
     unfold zr4 at this
     unfold ya3
     rw [if_neg]
     ·rfl
     ·rintro ⟨a, b⟩
      rw [jT a, jT b] at this
      cases this
    rw [this, List.map_id]
theorem zsd {a : List UInt8} (h : zr7 a = true) : toA a = (0, a) := by
 obtain ⟨h1, h2, h3⟩ := zsb h
 unfold toA
 rw [ya2 h1]
 have e : zr8 a (a.map UInt8.toNat) = a := by unfold zr8; rw [if_neg (by rw [List.length_map]; omega), h2]
 simp only [e]
 rw [if_neg (by rw [List.length_map]; omega), if_pos h]
theorem zse (l : List UInt8) : toA (zbk l) = toA l := by
 unfold toA
 rw [yba]
 cases yah l with
 | none => rfl
 | some P =>
   have e : zr8 (zbk l) (P.map ya3) = zr8 l P := by
    unfold zr8
    rw [List.length_map, zbm, ybc, zbo]
   simp only [Option.map_some, e, List.length_map]
theorem zsf (l : List UInt8) : (toA l).1 = 0 /\ zr7 (toA l).2 = true \/ (toA l).1 ≠ 0 /\ (toA l).2 = [] := by
 unfold toA
 cases yah l with
 | none => exact .inr ⟨(fun e => by cases e), rfl⟩
 | some P =>
   simp only []
   split
   ·exact .inr ⟨by decide, rfl⟩
   ·split
    ·rename_i h; exact .inl ⟨rfl, h⟩
    ·exact .inr ⟨by decide, rfl⟩
theorem zsg (l : List UInt8) : zr7 l = true /\ (toU l).1 = 0 \/ zr7 l = false /\ toU l = (14, []) := by
 unfold toU
 by_cases h : zr7 l = true
 ·rw [if_pos h]; exact .inl ⟨h, rfl⟩
 ·rw [if_neg h]; exact .inr ⟨by simpa using h, rfl⟩
end

section
open Go.RowKit
set_option maxHeartbeats 16000000
theorem z1w (c : UInt8) : zbe c = true ↔ 48 <= (c.toNat : Int) /\ (c.toNat : Int) <= 57 := by simp [zbe, zbc]
theorem z1x (s : ByteArray) : (ls s).isEmpty = decide (s.size = 0) := by
 rw [<- zb4]
 cases ls s <;> simp
theorem z1y (u : Nat) (h : ¬ u < 10) : Lib.decDigits u = Lib.decDigits (u / 10) ++ [UInt8.ofNat (48 + u % 10)] := by
 rw [Lib.decDigits, dif_neg h]
theorem z1z (d : Nat) (h : d < 10) : ((UInt8.ofNat (48 + d)).toNat : Int) = 48 + d := by
 rw [UInt8.toNat_ofNat']; omega
theorem z10 (d : Nat) (h : d < 10) : zbe (UInt8.ofNat (48 + d)) = true := by
 rw [z1w, z1z d h]; omega
theorem z11 (u : Nat) : (Lib.decDigits u).all zbe = true := by
 induction u using Nat.strongRecOn with
 | ind u ih =>
   by_cases h : u < 10
   ·rw [Lib.decDigits_one h]
    rw [List.all_cons, z10 u h]; rfl
   ·rw [z1y u h, List.all_append, ih (u / 10) (by omega)]
    rw [List.all_cons, z10 (u % 10) (by omega)]; rfl
theorem z12 (u : Nat) : Lib.decDigits u ≠ [] := by
 intro h
 have := Lib.decDigits_length u
 have h2 := Lib.nDigits_pos u
 rw [h] at this
 simp at this
 omega
end

section
open Go.RowKit
set_option maxHeartbeats 16000000
def z2l (c : UInt8) : List UInt8 -> List UInt8 -> List (List UInt8)
 | [], cur => [cur]
 | b :: r, cur => if b = c then cur :: z2l c r [] else z2l c r (cur ++ [b])
def z2m (c : UInt8) (l : List UInt8) : List (List UInt8) := z2l c l []
theorem z2n (c : UInt8) : ∀ l cur, z2l c l cur ≠ []
 | [], cur => by simp [z2l]
 | b :: r, cur => by unfold z2l; split <;> simp [z2n c r]
theorem z2o (c : UInt8) (l : List UInt8) : 0 < (z2m c l).length := List.length_pos_iff.2 (z2n c l [])
theorem z2p (c : UInt8) : ∀ l cur, (z2l c l cur).length <= l.length + 1
 | [], cur => by simp [z2l]
 | b :: r, cur => by
   unfold z2l
   split
   ·have := z2p c r []; simp; omega
   ·have := z2p c r (cur ++ [b]); simp; omega
theorem z2q (c : UInt8) (l : List UInt8) : (z2m c l).length <= l.length + 1 := z2p c l []
def noB (c : UInt8) (l : List UInt8) : Prop := ∀ b ∈ l, b ≠ c
theorem z2r (c : UInt8) : ∀ a cur r, noB c a -> z2l c (a ++ c :: r) cur = (cur ++ a) :: z2l c r []
 | [], cur, r, _ => by simp [z2l]
 | b :: a, cur, r, h => by
   have hb : b ≠ c := h b (by simp)
   rw [List.cons_append, z2l, if_neg hb, z2r c a (cur ++ [b]) r (fun x hx => h x (by simp [hx]))]
   simp
theorem z2s (c : UInt8) : ∀ a cur, noB c a -> z2l c a cur = [cur ++ a]
 | [], cur, _ => by simp [z2l]
 | b :: a, cur, h => by
   have hb : b ≠ c := h b (by simp)
   rw [z2l, if_neg hb, z2s c a (cur ++ [b]) (fun x hx => h x (by simp [hx]))]
   simp
theorem z2t (c : UInt8) (a r : List UInt8) (h : noB c a) : z2m c (a ++ c :: r) = a :: z2m c r := by
 unfold z2m; rw [z2r c a [] r h]; rfl
theorem z2u (c : UInt8) (a : List UInt8) (h : noB c a) : z2m c a = [a] := by
 unfold z2m; rw [z2s c a [] h]; rfl
def z2v (c : UInt8) : List (List UInt8) -> List UInt8
 | [] => []
 | [a] => a
 | a :: b :: r => a ++ c :: z2v c (b :: r)
theorem z2w (c : UInt8) (a : List UInt8) (p : List (List UInt8)) (h : p ≠ []) : z2v c (a :: p) = a ++ c :: z2v c p := by
 cases p with
 | nil => exact absurd rfl h
 | cons b r => rfl
theorem z2x (c : UInt8) : ∀ l cur, z2v c (z2l c l cur) = cur ++ l
 | [], cur => by simp [z2l, z2v]
 | b :: r, cur => by
   unfold z2l
   split
   ·rename_i h
    rw [z2w c _ _ (z2n c r []), z2x c r []]
    simp [h]
   ·rw [z2x c r (cur ++ [b])]; simp
theorem z2y (c : UInt8) (l : List UInt8) : z2v c (z2m c l) = l := by unfold z2m; rw [z2x]; rfl
theorem z2z (c : UInt8) : ∀ p : List (List UInt8), p ≠ [] -> (∀ a ∈ p, noB c a) -> z2m c (z2v c p) = p
 | [], h, _ => absurd rfl h
 | [a], _, h => z2u c a (h a (by simp))
 | a :: b :: r, _, h => by
   rw [z2v, z2t c a _ (h a (by simp)), z2z c (b :: r) (by simp) (fun x hx => h x (by simp at hx ⊢; exact .inr hx))]
theorem z20 (c : UInt8) : ∀ l cur, z2l c (l ++ [c]) cur = z2l c l cur ++ [[]]
 | [], cur => by simp [z2l]
 | b :: r, cur => by
   rw [List.cons_append, z2l, z2l]
   split
   ·rw [z20 c r []]; rfl
   ·rw [z20 c r (cur ++ [b])]
end

section
open Go.RowKit
set_option maxHeartbeats 16000000
def zpg (l : List UInt8) : List (List UInt8) := if 1 < (z2m 46 l).length /\ (z2m 46 l).getLast? = some [] then (z2m 46 l).dropLast else z2m 46 l
def zph (b : UInt8) : Nat := if 48 <= b.toNat /\ b.toNat <= 57 then b.toNat - 48 else if 97 <= b.toNat /\ b.toNat <= 102 then b.toNat - 87 else if 65 <= b.toNat /\ b.toNat <= 70 then b.toNat - 55 else 99
def zpi (base : Nat) (a : Nat) : List UInt8 -> Nat
 | [] => a
 | c :: r => zpi base (a * base + zph c) r
theorem zpj (base : Nat) : ∀ (l m : List UInt8) (a : Nat), zpi base a (l ++ m) = zpi base (zpi base a l) m
 | [], _, _ => rfl
 | c :: l, m, a => by rw [List.cons_append, zpi, zpi, zpj base l m]
def zpk : List UInt8 -> Nat × List UInt8
 | 48 :: b :: r => if b = 120 \/ b = 88 then (16, r) else (8, b :: r)
 | l => (10, l)
def zpl (l : List UInt8) : Option Nat := if l = [] then none else if (zpk l).2.all (fun c => decide (zph c < (zpk l).1)) = true then some (zpi (zpk l).1 0 (zpk l).2) else none
def zpm (l : List UInt8) : Bool := (l.all zbe && !l.isEmpty) || ((zpl l).isSome && decide (2 <= l.length) && (l.getD 1 0 == 120 || l.getD 1 0 == 88))
def zpn (l : List UInt8) : Bool := zpm ((zpg l).getLastD [])
def zpo : List (List UInt8) -> Nat -> Nat -> Option Nat
 | [], _, acc => some acc
 | [x], i, acc => match zpl x with
   | none => none
   | some n => if n < 256 ^ (4 - i) then some (acc + n) else none
 | x :: y :: r, i, acc => match zpl x with
   | none => none
   | some n => if n <= 255 then zpo (y :: r) (i + 1) (acc + n * 256 ^ (3 - i)) else none
def pnL (l : List UInt8) : Option Nat := if 4 < (zpg l).length then none else zpo (zpg l) 0 0
def zpp (l : List UInt8) : Option Nat := (List.range 256).find? fun n => decide (Lib.decDigits n = l)
def zpq (p : List (List UInt8)) : Option (Nat × Nat × Nat × Nat) := match p with
 | [a, b, c, d] => match zpp a, zpp b, zpp c, zpp d with
   | some a, some b, some c, some d => some (a, b, c, d)
   | _, _, _, _ => none
 | _ => none
def zpr (l : List UInt8) : Option Nat := (zpq (z2m 46 l)).map fun q => ((q.1 * 256 + q.2.1) * 256 + q.2.2.1) * 256 + q.2.2.2
def zps (v : Nat) : List UInt8 := z2v 46 [Lib.decDigits (v / 16777216), Lib.decDigits (v / 65536 % 256), Lib.decDigits (v / 256 % 256), Lib.decDigits (v % 256)]
theorem zpt (d : Nat) (h : d < 10) : zph (UInt8.ofNat (48 + d)) = d := by
 have := z1z d h
 have e : (UInt8.ofNat (48 + d)).toNat = 48 + d := by omega
 unfold zph
 rw [e, if_pos (by omega)]
 omega
theorem zpu (c : UInt8) (h : zbe c = true) : zph c = c.toNat - 48 /\ zph c < 10 := by
 have := (z1w c).1 h
 unfold zph
 rw [if_pos (by omega)]
 omega
theorem zpv : ∀ u : Nat, zpi 10 0 (Lib.decDigits u) = u := by
 intro u
 induction u using Nat.strongRecOn with
 | ind u ih =>
   by_cases hu : u < 10
   ·rw [Lib.decDigits_one hu, zpi, zpi, zpt u hu]; omega
   ·rw [z1y u hu, zpj, ih (u / 10) (by omega), zpi, zpi, zpt _ (by omega)]
    omega
theorem zpw (u : Nat) (h : 0 < u) : (Lib.decDigits u).head? ≠ some 48 := by
 induction u using Nat.strongRecOn with
 | ind u ih =>
   by_cases hu : u < 10
   ·rw [Lib.decDigits_one hu]
    simp only [List.head?_cons, ne_eq, Option.some.injEq]
    intro he
    have := z1z u hu
    rw [he] at this
    simp at this
    omega
   ·rw [z1y u hu]
    have h1 := ih (u / 10) (by omega) (by omega)
    have h2 := z12 (u / 10)
    cases hx : Lib.decDigits (u / 10) with
    | nil => exact absurd hx h2
    | cons c r => rw [hx] at h1; simpa using h1
theorem zpx (l : List UInt8) (h : l.head? ≠ some 48 \/ l.length <= 1) : zpk l = (10, l) := by
 unfold zpk
 split
 ·rename_i b r
  rcases h with h | h
  ·simp at h
  ·simp at h
 ·rfl
theorem zpy (b : UInt8) (r : List UInt8) (h : b = 120 \/ b = 88) : zpk (48 :: b :: r) = (16, r) := by
 show (if b = 120 \/ b = 88 then (16, r) else (8, b :: r)) = _
 rw [if_pos h]
theorem zpz (b : UInt8) (r : List UInt8) (h : ¬ (b = 120 \/ b = 88)) : zpk (48 :: b :: r) = (8, b :: r) := by
 show (if b = 120 \/ b = 88 then (16, r) else (8, b :: r)) = _
 rw [if_neg h]
theorem zp0 (u : Nat) : zpk (Lib.decDigits u) = (10, Lib.decDigits u) := by
 by_cases h : u = 0
 ·subst h; rw [Lib.decDigits_one (by omega)]; exact zpx _ (.inr (by simp))
 ·exact zpx _ (.inl (zpw u (by omega)))
theorem zp1 (u : Nat) : (Lib.decDigits u).all (fun c => decide (zph c < 10)) = true := by
 have := z11 u
 rw [List.all_eq_true] at this ⊢
 intro c hc
 exact jT (zpu c (this c hc)).2
theorem zp2 (u : Nat) : zpl (Lib.decDigits u) = some u := by
 unfold zpl
 rw [if_neg (z12 u), zp0, if_pos (zp1 u), zpv]
theorem zp3 {u v : Nat} (h : Lib.decDigits u = Lib.decDigits v) : u = v := by
 have := zpv u
 rw [h, zpv] at this
 exact this.symm
theorem zp4 (u : Nat) : noB 46 (Lib.decDigits u) := by
 have := z11 u
 rw [List.all_eq_true] at this
 intro c hc he
 have := this c hc
 rw [he] at this
 simp [zbe, zbc] at this
theorem zp5 (n : Nat) (h : n < 256) : zpp (Lib.decDigits n) = some n := by
 unfold zpp
 cases hx : (List.range 256).find? fun m => decide (Lib.decDigits m = Lib.decDigits n) with
 | none =>
   rw [List.find?_eq_none] at hx
   have := hx n (by simp [h])
   simp at this
 | some m =>
   have := List.find?_some hx
   simp only [decide_eq_true_eq] at this
   rw [zp3 this]
theorem zp6 {l : List UInt8} {n : Nat} (h : zpp l = some n) : n < 256 /\ l = Lib.decDigits n := by
 unfold zpp at h
 have h1 := List.find?_some h
 have h2 := List.mem_of_find?_eq_some h
 simp only [decide_eq_true_eq] at h1
 exact ⟨by simpa using h2, h1.symm⟩
theorem zp7 (v : Nat) : z2m 46 (zps v) = [Lib.decDigits (v / 16777216), Lib.decDigits (v / 65536 % 256), Lib.decDigits (v / 256 % 256), Lib.decDigits (v % 256)] := by
 unfold zps
 refine z2z 46 _ (by simp) ?_
 intro a ha
 simp at ha
 rcases ha with rfl | rfl | rfl | rfl <;> exact zp4 _
theorem zp8 (v : Nat) (h : v < 4294967296) : zpr (zps v) = some v := by
 unfold zpr
 rw [zp7]
 unfold zpq
 simp only [zp5 _ (show v / 16777216 < 256 by omega), zp5 _ (show v / 65536 % 256 < 256 by omega), zp5 _ (show v / 256 % 256 < 256 by omega), zp5 _ (show v % 256 < 256 by omega), Option.map_some, Option.some.injEq]
 omega
theorem zp9 {l : List UInt8} {p : List (List UInt8)} (h : z2m 46 l = p) (hl : p.getLast? ≠ some []) : zpg l = p := by
 unfold zpg
 rw [h, if_neg (fun h => hl h.2)]
theorem zqa (v : Nat) : zpg (zps v) = [Lib.decDigits (v / 16777216), Lib.decDigits (v / 65536 % 256), Lib.decDigits (v / 256 % 256), Lib.decDigits (v % 256)] := by
 refine zp9 (zp7 v) ?_
 simp only [List.getLast?_cons_cons, List.getLast?_singleton, ne_eq, Option.some.injEq]
 exact z12 _
theorem zqb (v : Nat) (h : v < 4294967296) : pnL (zps v) = some v := by
 unfold pnL
 rw [zqa, if_neg (by simp)]
 simp only [zpo, zp2]
 rw [if_pos (by omega), if_pos (by omega), if_pos (by omega), if_pos (by omega)]
 simp only [Option.some.injEq]
 omega
theorem zqc (u : Nat) : zpm (Lib.decDigits u) = true := by
 unfold zpm
 rw [z11]
 cases h : Lib.decDigits u with
 | nil => exact absurd h (z12 u)
 | cons c r => rfl
theorem zqd (v : Nat) : zpn (zps v) = true := by
 unfold zpn
 rw [zqa]
 exact zqc _
theorem zqe (l : List UInt8) : zpg (l ++ [46]) = z2m 46 l := by
 have h : z2m 46 (l ++ [46]) = z2m 46 l ++ [[]] := z20 46 l []
 unfold zpg
 rw [h, if_pos ⟨by have := z2o 46 l; simp; omega, by simp⟩]
 simp
theorem zqf {p : List (List UInt8)} {q : Nat × Nat × Nat × Nat} (h : zpq p = some q) : q.1 < 256 /\ q.2.1 < 256 /\ q.2.2.1 < 256 /\ q.2.2.2 < 256 /\ p = [Lib.decDigits q.1, Lib.decDigits q.2.1, Lib.decDigits q.2.2.1, Lib.decDigits q.2.2.2] := by
 unfold zpq at h
 split at h
 ·rename_i a b c d
  cases ha : zpp a <;> cases hb : zpp b <;> cases hc : zpp c <;> cases hd : zpp d <;> simp only [ha, hb, hc, hd] at h <;> try (cases h; done)
  have h1 := zp6 ha
  have h2 := zp6 hb
  have h3 := zp6 hc
  have h4 := zp6 hd
  simp only [Option.some.injEq] at h
  subst h
  exact ⟨h1.1, h2.1, h3.1, h4.1, by rw [<- h1.2, <- h2.2, <- h3.2, <- h4.2]⟩
 ·cases h
theorem zqg {l : List UInt8} {v : Nat} (h : zpr l = some v) : v < 4294967296 /\ l = zps v := by
 unfold zpr at h
 cases hq : zpq (z2m 46 l) with
 | none => rw [hq] at h; cases h
 | some q =>
   rw [hq] at h
   simp only [Option.map_some, Option.some.injEq] at h
   obtain ⟨h1, h2, h3, h4, hp⟩ := zqf hq
   refine ⟨by omega, ?_⟩
   rw [<- z2y 46 l, hp]
   unfold zps
   rw [show v / 16777216 = q.1 by omega, show v / 65536 % 256 = q.2.1 by omega, show v / 256 % 256 = q.2.2.1 by omega, show v % 256 = q.2.2.2 by omega]
end

end Go.Proofs.YtekaljeicfjkjaaGreatDoor
