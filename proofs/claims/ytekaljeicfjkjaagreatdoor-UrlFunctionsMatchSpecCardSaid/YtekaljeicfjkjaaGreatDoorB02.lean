/-
Text in UTF-8 in plain words: its code points, and back; small letters. No program.
Labels in plain words: canonical labels, ToASCII, ToUnicode, and their laws. No program.
Plain mathematics of package seconds (layer 4): no program.
Splitting at a byte: no program.
IPv4 addresses in plain words: no program.
-/
import Derived.Test.YtekaljeicfjkjaaGreatDoorB01
import Derived.Lib.ItoaNum
namespace Go.Proofs.YtekaljeicfjkjaaGreatDoor
section
open Go.RowKit
def z9s (b : Nat) : Option (Nat × Nat × Nat) :=
 if b < 128 then some (0, b, 0) else if 194 ≤ b ∧ b < 224 then some (1, b - 192, 128) else if 224 ≤ b ∧ b < 240 then some (2, b - 224, 2048)
 else if 240 ≤ b ∧ b < 245 then some (3, b - 240, 65536) else none
def z9t : Nat → Nat → List UInt8 → Option Nat
 | 0, v, _ => some v
 | _ + 1, _, [] => none
 | k + 1, v, c :: l => if 128 ≤ c.toNat ∧ c.toNat ≤ 191 then z9t k (v * 64 + c.toNat - 128) l else none
def z9u (b : UInt8) (l : List UInt8) : Option (Nat × Nat) := match z9s b.toNat with
 | none => none
 | some (k, v, least) => match z9t k v l with
   | none => none
   | some u => if u < least ∨ ptN u = false then none else some (u, k)
def z9v : Nat → List UInt8 → Option (List Nat)
 | _, [] => some []
 | 0, _ :: _ => none
 | f + 1, b :: l => match z9u b l with
   | none => none
   | some (u, k) => (z9v f (l.drop k)).map (u :: ·)
def z9w (l : List UInt8) : Option (List Nat) := z9v l.length l
def z9x (p : Nat) : List UInt8 :=
 if p < 128 then [UInt8.ofNat p] else if p < 2048 then [UInt8.ofNat (192 + p / 64), UInt8.ofNat (128 + p % 64)]
 else if p < 65536 then [UInt8.ofNat (224 + p / 4096), UInt8.ofNat (128 + p / 64 % 64), UInt8.ofNat (128 + p % 64)]
 else [UInt8.ofNat (240 + p / 262144), UInt8.ofNat (128 + p / 4096 % 64), UInt8.ofNat (128 + p / 64 % 64), UInt8.ofNat (128 + p % 64)]
def z9y (P : List Nat) : List UInt8 := P.flatMap z9x
theorem of8 {x : Nat} (h : x < 256) : (UInt8.ofNat x).toNat = x := by
 rw [UInt8.toNat_ofNat']
 omega
theorem z9z : ∀ (k v : Nat) (l : List UInt8) (u : Nat), z9t k v l = some u → k ≤ l.length
 | 0, _, _, _, _ => Nat.zero_le _
 | k + 1, _, [], _, h => by simp [z9t] at h
 | k + 1, v, c :: l, u, h => by
   rw [z9t] at h
   split at h
   ·have := z9z k _ l u h
    simp
    omega
   ·cases h
theorem z90 : ∀ (f g : Nat) (l : List UInt8), l.length ≤ f → l.length ≤ g → z9v f l = z9v g l
 | f, g, [], _, _ => by cases f <;> cases g <;> rfl
 | 0, g, b :: l, h, _ => by simp at h
 | f, 0, b :: l, _, h => by simp at h
 | f + 1, g + 1, b :: l, hf, hg => by
   rw [z9v, z9v]
   cases z9u b l with
   | none => rfl
   | some x =>
     obtain ⟨u, k⟩ := x
     show (z9v f (l.drop k)).map _ = (z9v g (l.drop k)).map _
     rw [z90 f g (l.drop k) (by simp at hf ⊢; omega) (by simp at hg ⊢; omega)]
theorem z91 (b : UInt8) (l : List UInt8) : z9w (b :: l) = match z9u b l with
 | none => none
 | some (u, k) => (z9w (l.drop k)).map (u :: ·) := by
 unfold z9w
 rw [List.length_cons, z9v]
 cases z9u b l with
 | none => rfl
 | some x =>
   obtain ⟨u, k⟩ := x
   show (z9v l.length (l.drop k)).map _ = (z9v (l.drop k).length (l.drop k)).map _
   rw [z90 l.length (l.drop k).length (l.drop k) (by simp) (Nat.le_refl _)]
theorem z92 : z9w [] = some [] := rfl
theorem z93 {p : Nat} (hp : ptN p = true) (r : List UInt8) : ∃ b x, z9x p = b :: x ∧ z9u b (x ++ r) = some (p, x.length) := by
 have hle := zxr hp
 unfold z9x
 by_cases h1 : p < 128
 ·rw [if_pos h1]
  refine ⟨_, _, rfl, ?_⟩
  unfold z9u z9s
  rw [of8 (by omega), if_pos h1]
  simp [z9t, hp]
 ·rw [if_neg h1]
  by_cases h2 : p < 2048
  ·rw [if_pos h2]
   refine ⟨_, _, rfl, ?_⟩
   unfold z9u z9s
   rw [of8 (by omega), if_neg (by omega), if_pos (by omega)]
   simp only [List.cons_append, List.nil_append, z9t]
   rw [of8 (by omega), if_pos (by omega)]
   have e : (192 + p / 64 - 192) * 64 + (128 + p % 64) - 128 = p := by omega
   rw [e]
   simp only []
   rw [if_neg (by rw [hp]; simp; omega)]
   rfl
  ·rw [if_neg h2]
   by_cases h3 : p < 65536
   ·rw [if_pos h3]
    refine ⟨_, _, rfl, ?_⟩
    unfold z9u z9s
    rw [of8 (by omega), if_neg (by omega), if_neg (by omega), if_pos (by omega)]
    simp only [List.cons_append, List.nil_append, z9t]
    rw [of8 (by omega), of8 (by omega), if_pos (by omega), if_pos (by omega)]
    have e : ((224 + p / 4096 - 224) * 64 + (128 + p / 64 % 64) - 128) * 64 + (128 + p % 64) - 128 = p := by omega
    rw [e]
    simp only []
    rw [if_neg (by rw [hp]; simp; omega)]
    rfl
   ·rw [if_neg h3]
    refine ⟨_, _, rfl, ?_⟩
    unfold z9u z9s
    rw [of8 (by omega), if_neg (by omega), if_neg (by omega), if_neg (by omega), if_pos (by omega)]
    simp only [List.cons_append, List.nil_append, z9t]
    rw [of8 (by omega), of8 (by omega), of8 (by omega), if_pos (by omega), if_pos (by omega), if_pos (by omega)]
    have e : (((240 + p / 262144 - 240) * 64 + (128 + p / 4096 % 64) - 128) * 64 + (128 + p / 64 % 64) - 128) * 64 + (128 + p % 64) - 128 = p := by omega
    rw [e]
    simp only []
    rw [if_neg (by rw [hp]; simp; omega)]
    rfl
theorem z94 : ∀ (P : List Nat), (∀ p ∈ P, ptN p = true) → z9w (z9y P) = some P
 | [], _ => rfl
 | p :: P, h => by
   obtain ⟨b, x, e, ho⟩ := z93 (h p (by simp)) (z9y P)
   have ih := z94 P (fun q hq => h q (by simp [hq]))
   show z9w (z9x p ++ z9y P) = _
   rw [e, List.cons_append, z91, ho]
   show (z9w ((x ++ z9y P).drop x.length)).map _ = _
   rw [List.drop_left, ih]
   rfl
theorem z95 : ∀ (k v : Nat) (l : List UInt8) (u : Nat), z9t k v l = some u → ∃ x, x.length = k ∧ l = x ++ l.drop k ∧ (∀ c ∈ x, 128 ≤ c.toNat ∧ c.toNat ≤ 191) ∧ u = x.foldl (fun a c => a * 64 + c.toNat - 128) v
 | 0, v, l, u, h => ⟨[], rfl, rfl, (fun c hc => by simp at hc), by injection h with h; exact h.symm⟩
 | k + 1, _, [], _, h => by simp [z9t] at h
 | k + 1, v, c :: l, u, h => by
   rw [z9t] at h
   split at h
   ·rename_i hc
    obtain ⟨x, h1, h2, h3, h4⟩ := z95 k _ l u h
    have h5 : c :: l = c :: (x ++ l.drop k) := congrArg (List.cons c) h2
    refine ⟨c :: x, by simp [h1], h5, ?_, by rw [List.foldl_cons]; exact h4⟩
    intro d hd
    rcases List.mem_cons.1 hd with rfl | hd
    ·exact hc
    ·exact h3 d hd
   ·cases h
theorem z96 {c : UInt8} {n : Nat} (h : c.toNat = n) : UInt8.ofNat n = c := by
 rw [← h]
 exact UInt8.ofNat_toNat
theorem z97 {x : List UInt8} (h : x.length = 1) : ∃ c, x = [c] := by
 match x, h with
 | [c], _ => exact ⟨c, rfl⟩
theorem z98 {x : List UInt8} (h : x.length = 2) : ∃ c d, x = [c, d] := by
 match x, h with
 | [c, d], _ => exact ⟨c, d, rfl⟩
theorem z99 {x : List UInt8} (h : x.length = 3) : ∃ c d e, x = [c, d, e] := by
 match x, h with
 | [c, d, e], _ => exact ⟨c, d, e, rfl⟩
theorem yaa {b : UInt8} {l : List UInt8} {u k : Nat} (h : z9u b l = some (u, k)) : ptN u = true ∧ k ≤ l.length ∧ z9x u ++ l.drop k = b :: l := by
 unfold z9u at h
 cases hL : z9s b.toNat with
 | none => rw [hL] at h; cases h
 | some q =>
   obtain ⟨k', v, least⟩ := q
   rw [hL] at h
   simp only [] at h
   cases hC : z9t k' v l with
   | none => rw [hC] at h; cases h
   | some u' =>
     rw [hC] at h
     simp only [] at h
     split at h
     ·cases h
     ·rename_i hno
      injection h with h
      injection h with e1 e2
      subst e1 e2
      have hpt : ptN u' = true := by cases hh : ptN u' with
       | true => rfl
       | false => exact absurd (.inr hh) hno
      have hls : least ≤ u' := by
       by_cases hlt : u' < least
       ·exact absurd (.inl hlt) hno
       ·omega
      refine ⟨hpt, z9z _ _ _ _ hC, ?_⟩
      obtain ⟨x, hx, hl, hr, hu⟩ := z95 _ _ _ _ hC
      have hb := b.toNat_lt
      suffices hs : z9x u' = b :: x by rw [hs, List.cons_append, ← hl]
      clear hC hno hl
      unfold z9s at hL
      split at hL
      ·rename_i h1
       obtain ⟨e1, e23⟩ := Prod.mk.inj (Option.some.inj hL)
       obtain ⟨e2, e3⟩ := Prod.mk.inj e23
       subst e1 e2 e3
       obtain rfl : x = [] := List.eq_nil_of_length_eq_zero hx
       have hu' : u' = b.toNat := hu
       unfold z9x
       rw [if_pos (by omega), hu', UInt8.ofNat_toNat]
      ·rename_i h1
       split at hL
       ·rename_i h2
        obtain ⟨e1, e23⟩ := Prod.mk.inj (Option.some.inj hL)
        obtain ⟨e2, e3⟩ := Prod.mk.inj e23
        subst e1 e2 e3
        obtain ⟨c, rfl⟩ := z97 hx
        have r1 := hr c (by simp)
        have hu' : u' = (b.toNat - 192) * 64 + c.toNat - 128 := hu
        unfold z9x
        rw [if_neg (by omega), if_pos (by omega), z96 (c := b) (by omega), z96 (c := c) (by omega)]
       ·rename_i h2
        split at hL
        ·rename_i h3
         obtain ⟨e1, e23⟩ := Prod.mk.inj (Option.some.inj hL)
         obtain ⟨e2, e3⟩ := Prod.mk.inj e23
         subst e1 e2 e3
         obtain ⟨c, d, rfl⟩ := z98 hx
         have r1 := hr c (by simp)
         have r2 := hr d (by simp)
         have hu' : u' = ((b.toNat - 224) * 64 + c.toNat - 128) * 64 + d.toNat - 128 := hu
         unfold z9x
         rw [if_neg (by omega), if_neg (by omega), if_pos (by omega), z96 (c := b) (by omega), z96 (c := c) (by omega), z96 (c := d) (by omega)]
        ·rename_i h3
         split at hL
         ·rename_i h4
          obtain ⟨e1, e23⟩ := Prod.mk.inj (Option.some.inj hL)
          obtain ⟨e2, e3⟩ := Prod.mk.inj e23
          subst e1 e2 e3
          obtain ⟨c, d, f, rfl⟩ := z99 hx
          have r1 := hr c (by simp)
          have r2 := hr d (by simp)
          have r3 := hr f (by simp)
          have hu' : u' = (((b.toNat - 240) * 64 + c.toNat - 128) * 64 + d.toNat - 128) * 64 + f.toNat - 128 := hu
          have hle := zxr hpt
          unfold z9x
          rw [if_neg (by omega), if_neg (by omega), if_neg (by omega), z96 (c := b) (by omega), z96 (c := c) (by omega), z96 (c := d) (by omega), z96 (c := f) (by omega)]
         ·cases hL
theorem yab : ∀ (f : Nat) (l : List UInt8) (P : List Nat), z9v f l = some P → (∀ p ∈ P, ptN p = true) ∧ z9y P = l
 | f, [], P, h => by
   have : P = [] := by cases f <;> (injection h with h; exact h.symm)
   subst this
   exact ⟨fun p hp => by simp at hp, rfl⟩
 | 0, b :: l, P, h => by simp [z9v] at h
 | f + 1, b :: l, P, h => by
   rw [z9v] at h
   cases ho : z9u b l with
   | none => rw [ho] at h; cases h
   | some x =>
     obtain ⟨u, k⟩ := x
     rw [ho] at h
     simp only [] at h
     cases hg : z9v f (l.drop k) with
     | none => rw [hg] at h; cases h
     | some Q =>
       rw [hg] at h
       injection h with h
       subst h
       obtain ⟨i1, i2⟩ := yab f _ Q hg
       obtain ⟨o1, _, o3⟩ := yaa ho
       refine ⟨?_, ?_⟩
       ·intro p hp
        rcases List.mem_cons.1 hp with rfl | hp
        ·exact o1
        ·exact i1 p hp
       ·show z9x u ++ z9y Q = _
        rw [i2, o3]
theorem yac {l : List UInt8} {P : List Nat} (h : z9w l = some P) : (∀ p ∈ P, ptN p = true) ∧ z9y P = l := yab _ l P h
theorem yad (p : Nat) : 1 ≤ (z9x p).length ∧ (128 ≤ p → 2 ≤ (z9x p).length) ∧ (p < 128 → (z9x p).length = 1) ∧ (z9x p).length ≤ 4 := by
 unfold z9x
 split
 ·exact ⟨Nat.le_refl _, fun _ => by omega, fun _ => rfl, by simp⟩
 ·split
  ·exact ⟨by simp, fun _ => by simp, fun _ => by omega, by simp⟩
  ·split
   ·exact ⟨by simp, fun _ => by simp, fun _ => by omega, by simp⟩
   ·exact ⟨by simp, fun _ => by simp, fun _ => by omega, by simp⟩
theorem yae : ∀ (P : List Nat), P.length ≤ (z9y P).length ∧ ((∃ p ∈ P, 128 ≤ p) → P.length < (z9y P).length) ∧ ((∀ p ∈ P, p < 128) → P.length = (z9y P).length)
 | [] => ⟨Nat.le_refl _, (fun ⟨p, hp, _⟩ => by simp at hp), fun _ => rfl⟩
 | p :: P => by
   obtain ⟨i1, i2, i3⟩ := yae P
   obtain ⟨a1, a2, a3, _⟩ := yad p
   have e : (z9y (p :: P)).length = (z9x p).length + (z9y P).length := by
    show (z9x p ++ z9y P).length = _
    rw [List.length_append]
   rw [e, List.length_cons]
   refine ⟨by omega, ?_, ?_⟩
   ·rintro ⟨q, hq, h⟩
    rcases List.mem_cons.1 hq with rfl | hq
    ·have := a2 h; omega
    ·have := i2 ⟨q, hq, h⟩; omega
   ·intro h
    have h1 := a3 (h p (by simp))
    have h2 := i3 (fun q hq => h q (by simp [hq]))
    omega
theorem yaf : ∀ (l : List UInt8), (∀ b ∈ l, b.toNat < 128) → z9y (l.map UInt8.toNat) = l
 | [], _ => rfl
 | b :: l, h => by
   show z9x b.toNat ++ z9y (l.map UInt8.toNat) = _
   rw [yaf l (fun c hc => h c (by simp [hc]))]
   unfold z9x
   rw [if_pos (h b (by simp)), UInt8.ofNat_toNat]
   rfl
theorem yag {n : Nat} (h : n < 128) : ptN n = true := by
 unfold ptN
 simp
 omega
theorem yah {l : List UInt8} (h : ∀ b ∈ l, b.toNat < 128) : z9w l = some (l.map UInt8.toNat) := by
 have h2 := z94 (l.map UInt8.toNat) (fun p hp => by obtain ⟨b, hb, rfl⟩ := List.mem_map.1 hp; exact yag (h b hb))
 rw [yaf l h] at h2
 exact h2
def yai (p : Nat) : Nat := if 65 ≤ p ∧ p ≤ 90 then p + 32 else p
theorem yaj {b : UInt8} (h : b.toNat < 65 ∨ 90 < b.toNat) : zbf b = b := by
 refine UInt8.toNat_inj.1 ?_
 have := zbh b
 unfold zbd zbb at this
 have hb : (decide (65 ≤ (b.toNat : Int)) && decide ((b.toNat : Int) ≤ 90)) = false := by simp; omega
 rw [hb] at this
 simp at this
 omega
theorem yak {b : UInt8} (h : 65 ≤ b.toNat ∧ b.toNat ≤ 90) : (zbf b).toNat = b.toNat + 32 := by
 have := zbh b
 unfold zbd zbb at this
 have hb : (decide (65 ≤ (b.toNat : Int)) && decide ((b.toNat : Int) ≤ 90)) = true := by simp; omega
 rw [hb] at this
 simp at this
 omega
theorem yal : ∀ (k v : Nat) (l : List UInt8), z9t k v (zbk l) = z9t k v l
 | 0, _, _ => rfl
 | _ + 1, _, [] => rfl
 | k + 1, v, c :: l => by
   show (if 128 ≤ (zbf c).toNat ∧ (zbf c).toNat ≤ 191 then z9t k (v * 64 + (zbf c).toNat - 128) (zbk l) else none) = _
   rw [yal, z9t]
   by_cases h : 65 ≤ c.toNat ∧ c.toNat ≤ 90
   ·have := yak h
    rw [if_neg (by omega), if_neg (by omega)]
   ·rw [yaj (by omega)]
theorem yam {p : Nat} (h : ptN p = true) : ptN (yai p) = true := by
 unfold yai
 split
 ·exact yag (by omega)
 ·exact h
theorem yan (b : UInt8) (l : List UInt8) : z9u (zbf b) (zbk l) = (z9u b l).map fun x => (yai x.1, x.2) := by
 unfold z9u
 by_cases h : 65 ≤ b.toNat ∧ b.toNat ≤ 90
 ·have hb := yak h
  have l1 : z9s (zbf b).toNat = some (0, b.toNat + 32, 0) := by unfold z9s; rw [hb, if_pos (by omega)]
  have l2 : z9s b.toNat = some (0, b.toNat, 0) := by unfold z9s; rw [if_pos (by omega)]
  rw [l1, l2]
  simp only [z9t]
  rw [if_neg (by rw [yag (by omega)]; simp), if_neg (by rw [yag (by omega)]; simp)]
  show some (b.toNat + 32, 0) = some (yai b.toNat, 0)
  unfold yai
  rw [if_pos h]
 ·rw [yaj (by omega)]
  cases hL : z9s b.toNat with
  | none => rfl
  | some q =>
    obtain ⟨k, v, least⟩ := q
    simp only [yal]
    cases hC : z9t k v l with
    | none => rfl
    | some u =>
      simp only []
      split
      ·rfl
      ·rename_i hno
       show some (u, k) = some (yai u, k)
       have hu : yai u = u := by
        unfold yai
        rw [if_neg]
        intro hc
        unfold z9s at hL
        split at hL
        ·obtain ⟨e1, e23⟩ := Prod.mk.inj (Option.some.inj hL)
         obtain ⟨e2, e3⟩ := Prod.mk.inj e23
         subst e1 e2 e3
         injection hC with hC
         omega
        ·have : 128 ≤ least := by
          split at hL
          ·have e3 := (Prod.mk.inj (Prod.mk.inj (Option.some.inj hL)).2).2; omega
          ·split at hL
           ·have e3 := (Prod.mk.inj (Prod.mk.inj (Option.some.inj hL)).2).2; omega
           ·split at hL
            ·have e3 := (Prod.mk.inj (Prod.mk.inj (Option.some.inj hL)).2).2; omega
            ·cases hL
         exact hno (.inl (by omega))
       rw [hu]
theorem yao : ∀ (f : Nat) (l : List UInt8), z9v f (zbk l) = (z9v f l).map (List.map yai)
 | f, [] => by cases f <;> rfl
 | 0, b :: l => rfl
 | f + 1, b :: l => by
   show (match z9u (zbf b) (zbk l) with
    | none => none
    | some (u, k) => (z9v f ((zbk l).drop k)).map (u :: ·)) = _
   rw [yan, z9v]
   cases z9u b l with
   | none => rfl
   | some x =>
     obtain ⟨u, k⟩ := x
     show (z9v f ((zbk l).drop k)).map (yai u :: ·) = ((z9v f (l.drop k)).map (u :: ·)).map (List.map yai)
     have e : (zbk l).drop k = zbk (l.drop k) := by unfold zbk; rw [List.map_drop]
     rw [e, yao f (l.drop k)]
     cases z9v f (l.drop k) with
     | none => rfl
     | some Q => rfl
theorem yap (l : List UInt8) : z9w (zbk l) = (z9w l).map (List.map yai) := by
 unfold z9w
 rw [zbm]
 exact yao _ l
theorem yaq (p : Nat) : yai (yai p) = yai p := by
 unfold yai
 split
 ·rw [if_neg (by omega)]
 ·rfl
theorem yar (P : List Nat) : (P.map yai).map yai = P.map yai := by
 rw [List.map_map]
 exact List.map_congr_left fun p _ => yaq p
end

section
open Go.RowKit
def xnL : List UInt8 := [120, 110, 45, 45]
def okN (n : Nat) : Bool := (decide (97 ≤ n) && decide (n ≤ 122)) || (decide (48 ≤ n) && decide (n ≤ 57)) || n == 45 || n == 95
def zsz (p : Nat) : Bool := decide (65 ≤ p) && decide (p ≤ 90)
def zs0 (r : List UInt8) : Bool := match zwh r with
 | .error _ => false
 | .ok p => p.any (fun x => decide (128 ≤ x)) && p.all (fun x => !zsz x) && decide (zwk p = r)
def zs1 (l : List UInt8) : Bool := decide (l ≠ []) && decide (l.length ≤ 63) && decide (l.head? ≠ some 45) && decide (l.getLast? ≠ some 45)
def zs2 (l : List UInt8) : Bool := zs1 l && l.all (fun b => okN b.toNat) && (decide (l.take 4 ≠ xnL) || zs0 (l.drop 4))
def zs3 (l : List UInt8) (P : List Nat) : List UInt8 := if P.length < l.length then xnL ++ zwk (P.map yai) else zbk l
def toA (l : List UInt8) : Nat × List UInt8 := match z9w l with
 | none => (4, [])
 | some P => if 256 < P.length then (3, []) else if zs2 (zs3 l P) = true then (0, zs3 l P) else (14, [])
def zs4 (l : List UInt8) : List UInt8 := if l.take 4 = xnL then z9y (puV' (l.drop 4)) else l
where puV' (r : List UInt8) : List Nat := match zwh r with
 | .ok p => p
 | .error _ => []
def toU (l : List UInt8) : Nat × List UInt8 := if zs2 l = true then (0, zs4 l) else (14, [])
theorem zs5 {n : Nat} (h : okN n = true) : n < 128 ∧ ¬ (65 ≤ n ∧ n ≤ 90) := by
 unfold okN at h
 simp only [Bool.or_eq_true, Bool.and_eq_true, decide_eq_true_eq, beq_iff_eq] at h
 omega
theorem zs6 {l : List UInt8} (h : zs2 l = true) : (∀ b ∈ l, b.toNat < 128) ∧ zbk l = l ∧ l.length ≤ 63 := by
 unfold zs2 at h
 simp only [Bool.and_eq_true] at h
 have ha : ∀ b ∈ l, okN b.toNat = true := fun b hb => List.all_eq_true.1 h.1.2 b hb
 refine ⟨fun b hb => (zs5 (ha b hb)).1, ?_, ?_⟩
 ·unfold zbk
  have : l.map zbf = l.map id := List.map_congr_left fun b hb => yaj (by have := (zs5 (ha b hb)).2; omega)
  rw [this, List.map_id]
 ·have := h.1.1
  unfold zs1 at this
  simp only [Bool.and_eq_true, decide_eq_true_eq] at this
  omega
theorem zs7 {r : List UInt8} (h : zs0 r = true) : ∃ p, zwh r = .ok p ∧ (∀ x ∈ p, ptN x = true) ∧ p.length ≤ 256 ∧ (∃ x ∈ p, 128 ≤ x) ∧ p.map yai = p ∧ zwk p = r := by
 unfold zs0 at h
 cases hd : zwh r with
 | error e => rw [hd] at h; cases h
 | ok p =>
   rw [hd] at h
   simp only [Bool.and_eq_true, decide_eq_true_eq] at h
   obtain ⟨⟨h1, h2⟩, h3⟩ := h
   obtain ⟨e1, e2, _, _⟩ := zwt hd
   refine ⟨p, rfl, e1, e2, ?_, ?_, h3⟩
   ·obtain ⟨x, hx, hy⟩ := List.any_eq_true.1 h1
    exact ⟨x, hx, of_decide_eq_true hy⟩
   ·have : p.map yai = p.map id := List.map_congr_left fun x hx => by
     have := List.all_eq_true.1 h2 x hx
     unfold zsz at this
     unfold yai
     rw [if_neg]
     ·rfl
     ·rintro ⟨a, b⟩
      rw [decide_eq_true a, decide_eq_true b] at this
      cases this
    rw [this, List.map_id]
theorem zs8 {a : List UInt8} (h : zs2 a = true) : toA a = (0, a) := by
 obtain ⟨h1, h2, h3⟩ := zs6 h
 unfold toA
 rw [yah h1]
 have e : zs3 a (a.map UInt8.toNat) = a := by unfold zs3; rw [if_neg (by rw [List.length_map]; omega), h2]
 simp only [e]
 rw [if_neg (by rw [List.length_map]; omega), if_pos h]
theorem zs9 (l : List UInt8) : toA (zbk l) = toA l := by
 unfold toA
 rw [yap]
 cases z9w l with
 | none => rfl
 | some P =>
   have e : zs3 (zbk l) (P.map yai) = zs3 l P := by
    unfold zs3
    rw [List.length_map, zbm, yar, zbo]
   simp only [Option.map_some, e, List.length_map]
theorem zta (l : List UInt8) : (toA l).1 = 0 ∧ zs2 (toA l).2 = true ∨ (toA l).1 ≠ 0 ∧ (toA l).2 = [] := by
 unfold toA
 cases z9w l with
 | none => exact .inr ⟨(fun e => by cases e), rfl⟩
 | some P =>
   simp only []
   split
   ·exact .inr ⟨by decide, rfl⟩
   ·split
    ·rename_i h; exact .inl ⟨rfl, h⟩
    ·exact .inr ⟨by decide, rfl⟩
theorem ztb (l : List UInt8) : zs2 l = true ∧ (toU l).1 = 0 ∨ zs2 l = false ∧ toU l = (14, []) := by
 unfold toU
 by_cases h : zs2 l = true
 ·rw [if_pos h]; exact .inl ⟨h, rfl⟩
 ·rw [if_neg h]; exact .inr ⟨by simpa using h, rfl⟩
end

section
open Go.RowKit
theorem z0o (c : UInt8) : zbe c = true ↔ 48 ≤ (c.toNat : Int) ∧ (c.toNat : Int) ≤ 57 := by simp [zbe, zbc]
theorem z0p (s : ByteArray) : (ls s).isEmpty = decide (s.size = 0) := by
 rw [← zb4]
 cases ls s <;> simp
theorem z0q (u : Nat) (h : ¬ u < 10) : Lib.decDigits u = Lib.decDigits (u / 10) ++ [UInt8.ofNat (48 + u % 10)] := by
 rw [Lib.decDigits, dif_neg h]
theorem z0r (d : Nat) (h : d < 10) : ((UInt8.ofNat (48 + d)).toNat : Int) = 48 + d := by
 rw [UInt8.toNat_ofNat']; omega
theorem z0s (d : Nat) (h : d < 10) : zbe (UInt8.ofNat (48 + d)) = true := by
 rw [z0o, z0r d h]; omega
theorem z0t (u : Nat) : (Lib.decDigits u).all zbe = true := by
 induction u using Nat.strongRecOn with
 | ind u ih =>
   by_cases h : u < 10
   ·rw [Lib.decDigits_one h]
    rw [List.all_cons, z0s u h]; rfl
   ·rw [z0q u h, List.all_append, ih (u / 10) (by omega)]
    rw [List.all_cons, z0s (u % 10) (by omega)]; rfl
theorem z0u (u : Nat) : Lib.decDigits u ≠ [] := by
 intro h
 have := Lib.decDigits_length u
 have h2 := Lib.nDigits_pos u
 rw [h] at this
 simp at this
 omega
end

section
open Go.RowKit
def z1d (c : UInt8) : List UInt8 → List UInt8 → List (List UInt8)
 | [], cur => [cur]
 | b :: r, cur => if b = c then cur :: z1d c r [] else z1d c r (cur ++ [b])
def z1e (c : UInt8) (l : List UInt8) : List (List UInt8) := z1d c l []
theorem z1f (c : UInt8) : ∀ l cur, z1d c l cur ≠ []
 | [], cur => by simp [z1d]
 | b :: r, cur => by unfold z1d; split <;> simp [z1f c r]
theorem z1g (c : UInt8) (l : List UInt8) : 0 < (z1e c l).length := List.length_pos_iff.2 (z1f c l [])
theorem z1h (c : UInt8) : ∀ l cur, (z1d c l cur).length ≤ l.length + 1
 | [], cur => by simp [z1d]
 | b :: r, cur => by
   unfold z1d
   split
   ·have := z1h c r []; simp; omega
   ·have := z1h c r (cur ++ [b]); simp; omega
theorem z1i (c : UInt8) (l : List UInt8) : (z1e c l).length ≤ l.length + 1 := z1h c l []
def noB (c : UInt8) (l : List UInt8) : Prop := ∀ b ∈ l, b ≠ c
theorem z1j (c : UInt8) : ∀ a cur r, noB c a → z1d c (a ++ c :: r) cur = (cur ++ a) :: z1d c r []
 | [], cur, r, _ => by simp [z1d]
 | b :: a, cur, r, h => by
   have hb : b ≠ c := h b (by simp)
   rw [List.cons_append, z1d, if_neg hb, z1j c a (cur ++ [b]) r (fun x hx => h x (by simp [hx]))]
   simp
theorem z1k (c : UInt8) : ∀ a cur, noB c a → z1d c a cur = [cur ++ a]
 | [], cur, _ => by simp [z1d]
 | b :: a, cur, h => by
   have hb : b ≠ c := h b (by simp)
   rw [z1d, if_neg hb, z1k c a (cur ++ [b]) (fun x hx => h x (by simp [hx]))]
   simp
theorem z1l (c : UInt8) (a r : List UInt8) (h : noB c a) : z1e c (a ++ c :: r) = a :: z1e c r := by
 unfold z1e; rw [z1j c a [] r h]; rfl
theorem z1m (c : UInt8) (a : List UInt8) (h : noB c a) : z1e c a = [a] := by
 unfold z1e; rw [z1k c a [] h]; rfl
def z1n (c : UInt8) : List (List UInt8) → List UInt8
 | [] => []
 | [a] => a
 | a :: b :: r => a ++ c :: z1n c (b :: r)
theorem z1o (c : UInt8) (a : List UInt8) (p : List (List UInt8)) (h : p ≠ []) : z1n c (a :: p) = a ++ c :: z1n c p := by
 cases p with
 | nil => exact absurd rfl h
 | cons b r => rfl
theorem z1p (c : UInt8) : ∀ l cur, z1n c (z1d c l cur) = cur ++ l
 | [], cur => by simp [z1d, z1n]
 | b :: r, cur => by
   unfold z1d
   split
   ·rename_i h
    rw [z1o c _ _ (z1f c r []), z1p c r []]
    simp [h]
   ·rw [z1p c r (cur ++ [b])]; simp
theorem z1q (c : UInt8) (l : List UInt8) : z1n c (z1e c l) = l := by unfold z1e; rw [z1p]; rfl
theorem z1r (c : UInt8) : ∀ p : List (List UInt8), p ≠ [] → (∀ a ∈ p, noB c a) → z1e c (z1n c p) = p
 | [], h, _ => absurd rfl h
 | [a], _, h => z1m c a (h a (by simp))
 | a :: b :: r, _, h => by
   rw [z1n, z1l c a _ (h a (by simp)), z1r c (b :: r) (by simp) (fun x hx => h x (by simp at hx ⊢; exact .inr hx))]
theorem z1s (c : UInt8) : ∀ l cur, z1d c (l ++ [c]) cur = z1d c l cur ++ [[]]
 | [], cur => by simp [z1d]
 | b :: r, cur => by
   rw [List.cons_append, z1d, z1d]
   split
   ·rw [z1s c r []]; rfl
   ·rw [z1s c r (cur ++ [b])]
end

section
open Go.RowKit
def zqb (l : List UInt8) : List (List UInt8) := if 1 < (z1e 46 l).length ∧ (z1e 46 l).getLast? = some [] then (z1e 46 l).dropLast else z1e 46 l
def zqc (b : UInt8) : Nat := if 48 ≤ b.toNat ∧ b.toNat ≤ 57 then b.toNat - 48 else if 97 ≤ b.toNat ∧ b.toNat ≤ 102 then b.toNat - 87 else if 65 ≤ b.toNat ∧ b.toNat ≤ 70 then b.toNat - 55 else 99
def zqd (base : Nat) (a : Nat) : List UInt8 → Nat
 | [] => a
 | c :: r => zqd base (a * base + zqc c) r
theorem zqe (base : Nat) : ∀ (l m : List UInt8) (a : Nat), zqd base a (l ++ m) = zqd base (zqd base a l) m
 | [], _, _ => rfl
 | c :: l, m, a => by rw [List.cons_append, zqd, zqd, zqe base l m]
def zqf : List UInt8 → Nat × List UInt8
 | 48 :: b :: r => if b = 120 ∨ b = 88 then (16, r) else (8, b :: r)
 | l => (10, l)
def zqg (l : List UInt8) : Option Nat := if l = [] then none else if (zqf l).2.all (fun c => decide (zqc c < (zqf l).1)) = true then some (zqd (zqf l).1 0 (zqf l).2) else none
def zqh (l : List UInt8) : Bool := (l.all zbe && !l.isEmpty) || ((zqg l).isSome && decide (2 ≤ l.length) && (l.getD 1 0 == 120 || l.getD 1 0 == 88))
def zqi (l : List UInt8) : Bool := zqh ((zqb l).getLastD [])
def zqj : List (List UInt8) → Nat → Nat → Option Nat
 | [], _, acc => some acc
 | [x], i, acc => match zqg x with
   | none => none
   | some n => if n < 256 ^ (4 - i) then some (acc + n) else none
 | x :: y :: r, i, acc => match zqg x with
   | none => none
   | some n => if n ≤ 255 then zqj (y :: r) (i + 1) (acc + n * 256 ^ (3 - i)) else none
def pnL (l : List UInt8) : Option Nat := if 4 < (zqb l).length then none else zqj (zqb l) 0 0
def zqk (l : List UInt8) : Option Nat := (List.range 256).find? fun n => decide (Lib.decDigits n = l)
def zql (p : List (List UInt8)) : Option (Nat × Nat × Nat × Nat) := match p with
 | [a, b, c, d] => match zqk a, zqk b, zqk c, zqk d with
   | some a, some b, some c, some d => some (a, b, c, d)
   | _, _, _, _ => none
 | _ => none
def zqm (l : List UInt8) : Option Nat := (zql (z1e 46 l)).map fun q => ((q.1 * 256 + q.2.1) * 256 + q.2.2.1) * 256 + q.2.2.2
def zqn (v : Nat) : List UInt8 := z1n 46 [Lib.decDigits (v / 16777216), Lib.decDigits (v / 65536 % 256), Lib.decDigits (v / 256 % 256), Lib.decDigits (v % 256)]
theorem zqo (d : Nat) (h : d < 10) : zqc (UInt8.ofNat (48 + d)) = d := by
 have := z0r d h
 have e : (UInt8.ofNat (48 + d)).toNat = 48 + d := by omega
 unfold zqc
 rw [e, if_pos (by omega)]
 omega
theorem zqp (c : UInt8) (h : zbe c = true) : zqc c = c.toNat - 48 ∧ zqc c < 10 := by
 have := (z0o c).1 h
 unfold zqc
 rw [if_pos (by omega)]
 omega
theorem zqq : ∀ u : Nat, zqd 10 0 (Lib.decDigits u) = u := by
 intro u
 induction u using Nat.strongRecOn with
 | ind u ih =>
   by_cases hu : u < 10
   ·rw [Lib.decDigits_one hu, zqd, zqd, zqo u hu]; omega
   ·rw [z0q u hu, zqe, ih (u / 10) (by omega), zqd, zqd, zqo _ (by omega)]
    omega
theorem zqr (u : Nat) (h : 0 < u) : (Lib.decDigits u).head? ≠ some 48 := by
 induction u using Nat.strongRecOn with
 | ind u ih =>
   by_cases hu : u < 10
   ·rw [Lib.decDigits_one hu]
    simp only [List.head?_cons, ne_eq, Option.some.injEq]
    intro he
    have := z0r u hu
    rw [he] at this
    simp at this
    omega
   ·rw [z0q u hu]
    have h1 := ih (u / 10) (by omega) (by omega)
    have h2 := z0u (u / 10)
    cases hx : Lib.decDigits (u / 10) with
    | nil => exact absurd hx h2
    | cons c r => rw [hx] at h1; simpa using h1
theorem zqs (l : List UInt8) (h : l.head? ≠ some 48 ∨ l.length ≤ 1) : zqf l = (10, l) := by
 unfold zqf
 split
 ·rename_i b r
  rcases h with h | h
  ·simp at h
  ·simp at h
 ·rfl
theorem zqt (b : UInt8) (r : List UInt8) (h : b = 120 ∨ b = 88) : zqf (48 :: b :: r) = (16, r) := by
 show (if b = 120 ∨ b = 88 then (16, r) else (8, b :: r)) = _
 rw [if_pos h]
theorem zqu (b : UInt8) (r : List UInt8) (h : ¬ (b = 120 ∨ b = 88)) : zqf (48 :: b :: r) = (8, b :: r) := by
 show (if b = 120 ∨ b = 88 then (16, r) else (8, b :: r)) = _
 rw [if_neg h]
theorem zqv (u : Nat) : zqf (Lib.decDigits u) = (10, Lib.decDigits u) := by
 by_cases h : u = 0
 ·subst h; rw [Lib.decDigits_one (by omega)]; exact zqs _ (.inr (by simp))
 ·exact zqs _ (.inl (zqr u (by omega)))
theorem zqw (u : Nat) : (Lib.decDigits u).all (fun c => decide (zqc c < 10)) = true := by
 have := z0t u
 rw [List.all_eq_true] at this ⊢
 intro c hc
 exact decide_eq_true (zqp c (this c hc)).2
theorem zqx (u : Nat) : zqg (Lib.decDigits u) = some u := by
 unfold zqg
 rw [if_neg (z0u u), zqv, if_pos (zqw u), zqq]
theorem zqy {u v : Nat} (h : Lib.decDigits u = Lib.decDigits v) : u = v := by
 have := zqq u
 rw [h, zqq] at this
 exact this.symm
theorem zqz (u : Nat) : noB 46 (Lib.decDigits u) := by
 have := z0t u
 rw [List.all_eq_true] at this
 intro c hc he
 have := this c hc
 rw [he] at this
 simp [zbe, zbc] at this
theorem zq0 (n : Nat) (h : n < 256) : zqk (Lib.decDigits n) = some n := by
 unfold zqk
 cases hx : (List.range 256).find? fun m => decide (Lib.decDigits m = Lib.decDigits n) with
 | none =>
   rw [List.find?_eq_none] at hx
   have := hx n (by simp [h])
   simp at this
 | some m =>
   have := List.find?_some hx
   simp only [decide_eq_true_eq] at this
   rw [zqy this]
theorem zq1 {l : List UInt8} {n : Nat} (h : zqk l = some n) : n < 256 ∧ l = Lib.decDigits n := by
 unfold zqk at h
 have h1 := List.find?_some h
 have h2 := List.mem_of_find?_eq_some h
 simp only [decide_eq_true_eq] at h1
 exact ⟨by simpa using h2, h1.symm⟩
theorem zq2 (v : Nat) : z1e 46 (zqn v) = [Lib.decDigits (v / 16777216), Lib.decDigits (v / 65536 % 256), Lib.decDigits (v / 256 % 256), Lib.decDigits (v % 256)] := by
 unfold zqn
 refine z1r 46 _ (by simp) ?_
 intro a ha
 simp at ha
 rcases ha with rfl | rfl | rfl | rfl <;> exact zqz _
theorem zq3 (v : Nat) (h : v < 4294967296) : zqm (zqn v) = some v := by
 unfold zqm
 rw [zq2]
 unfold zql
 simp only [zq0 _ (show v / 16777216 < 256 by omega), zq0 _ (show v / 65536 % 256 < 256 by omega), zq0 _ (show v / 256 % 256 < 256 by omega), zq0 _ (show v % 256 < 256 by omega), Option.map_some, Option.some.injEq]
 omega
theorem zq4 {l : List UInt8} {p : List (List UInt8)} (h : z1e 46 l = p) (hl : p.getLast? ≠ some []) : zqb l = p := by
 unfold zqb
 rw [h, if_neg (fun h => hl h.2)]
theorem zq5 (v : Nat) : zqb (zqn v) = [Lib.decDigits (v / 16777216), Lib.decDigits (v / 65536 % 256), Lib.decDigits (v / 256 % 256), Lib.decDigits (v % 256)] := by
 refine zq4 (zq2 v) ?_
 simp only [List.getLast?_cons_cons, List.getLast?_singleton, ne_eq, Option.some.injEq]
 exact z0u _
theorem zq6 (v : Nat) (h : v < 4294967296) : pnL (zqn v) = some v := by
 unfold pnL
 rw [zq5, if_neg (by simp)]
 simp only [zqj, zqx]
 rw [if_pos (by omega), if_pos (by omega), if_pos (by omega), if_pos (by omega)]
 simp only [Option.some.injEq]
 omega
theorem zq7 (u : Nat) : zqh (Lib.decDigits u) = true := by
 unfold zqh
 rw [z0t]
 cases h : Lib.decDigits u with
 | nil => exact absurd h (z0u u)
 | cons c r => rfl
theorem zq8 (v : Nat) : zqi (zqn v) = true := by
 unfold zqi
 rw [zq5]
 exact zq7 _
theorem zq9 (l : List UInt8) : zqb (l ++ [46]) = z1e 46 l := by
 have h : z1e 46 (l ++ [46]) = z1e 46 l ++ [[]] := z1s 46 l []
 unfold zqb
 rw [h, if_pos ⟨by have := z1g 46 l; simp; omega, by simp⟩]
 simp
theorem zra {p : List (List UInt8)} {q : Nat × Nat × Nat × Nat} (h : zql p = some q) : q.1 < 256 ∧ q.2.1 < 256 ∧ q.2.2.1 < 256 ∧ q.2.2.2 < 256 ∧ p = [Lib.decDigits q.1, Lib.decDigits q.2.1, Lib.decDigits q.2.2.1, Lib.decDigits q.2.2.2] := by
 unfold zql at h
 split at h
 ·rename_i a b c d
  cases ha : zqk a <;> cases hb : zqk b <;> cases hc : zqk c <;> cases hd : zqk d <;> simp only [ha, hb, hc, hd] at h <;> try (cases h; done)
  have h1 := zq1 ha
  have h2 := zq1 hb
  have h3 := zq1 hc
  have h4 := zq1 hd
  simp only [Option.some.injEq] at h
  subst h
  exact ⟨h1.1, h2.1, h3.1, h4.1, by rw [← h1.2, ← h2.2, ← h3.2, ← h4.2]⟩
 ·cases h
theorem zrb {l : List UInt8} {v : Nat} (h : zqm l = some v) : v < 4294967296 ∧ l = zqn v := by
 unfold zqm at h
 cases hq : zql (z1e 46 l) with
 | none => rw [hq] at h; cases h
 | some q =>
   rw [hq] at h
   simp only [Option.map_some, Option.some.injEq] at h
   obtain ⟨h1, h2, h3, h4, hp⟩ := zra hq
   refine ⟨by omega, ?_⟩
   rw [← z1q 46 l, hp]
   unfold zqn
   rw [show v / 16777216 = q.1 by omega, show v / 65536 % 256 = q.2.1 by omega, show v / 256 % 256 = q.2.2.1 by omega, show v % 256 = q.2.2.2 by omega]
end

end Go.Proofs.YtekaljeicfjkjaaGreatDoor
