/-
Text in UTF-8 in plain words: its code points, and back; small letters. No program.
Labels in plain words: canonical labels, ToASCII, ToUnicode, and their laws. No program.
Plain mathematics of package seconds (layer 4): no program.
Splitting at a byte: no program.
IPv4 addresses in plain words: no program.
-/
import Derived.Test.YtekaljeicfjkjaaGreatDoorK01
import Derived.Lib.ItoaNum
namespace Go.Proofs.YtekaljeicfjkjaaGreatDoor
section
open Go.RowKit
set_option maxHeartbeats 16000000
def yam (b : Nat) : Option (Nat × Nat × Nat) :=
 if b < 128 then some (0, b, 0) else if 194 <= b /\ b < 224 then some (1, b - 192, 128) else if 224 <= b /\ b < 240 then some (2, b - 224, 2048)
 else if 240 <= b /\ b < 245 then some (3, b - 240, 65536) else none
def yan : Nat -> Nat -> List UInt8 -> Option Nat
 | 0, v, _ => some v
 | _ + 1, _, [] => none
 | k + 1, v, c :: l => if 128 <= c.toNat /\ c.toNat <= 191 then yan k (v * 64 + c.toNat - 128) l else none
def yao (b : UInt8) (l : List UInt8) : Option (Nat × Nat) := match yam b.toNat with
 | none => none
 | some (k, v, least) => match yan k v l with
   | none => none
   | some u => if u < least \/ ptN u = false then none else some (u, k)
def yap : Nat -> List UInt8 -> Option (List Nat)
 | _, [] => some []
 | 0, _ :: _ => none
 | f + 1, b :: l => match yao b l with
   | none => none
   | some (u, k) => (yap f (l.drop k)).map (u :: ·)
def yaq (l : List UInt8) : Option (List Nat) := yap l.length l
def yar (p : Nat) : List UInt8 :=
 if p < 128 then [UInt8.ofNat p] else if p < 2048 then [UInt8.ofNat (192 + p / 64), UInt8.ofNat (128 + p % 64)]
 else if p < 65536 then [UInt8.ofNat (224 + p / 4096), UInt8.ofNat (128 + p / 64 % 64), UInt8.ofNat (128 + p % 64)]
 else [UInt8.ofNat (240 + p / 262144), UInt8.ofNat (128 + p / 4096 % 64), UInt8.ofNat (128 + p / 64 % 64), UInt8.ofNat (128 + p % 64)]
def yas (P : List Nat) : List UInt8 := P.flatMap yar
theorem of8 {x : Nat} (h : x < 256) : (UInt8.ofNat x).toNat = x := by
 rw [UInt8.toNat_ofNat']
 omega
theorem yat : ∀ (k v : Nat) (l : List UInt8) (u : Nat), yan k v l = some u -> k <= l.length
 | 0, _, _, _, _ => Nat.zero_le _
 | k + 1, _, [], _, h => by simp [yan] at h
 | k + 1, v, c :: l, u, h => by
   rw [yan] at h
   split at h
   ·have := yat k _ l u h
    simp
    omega
   ·cases h
theorem yau : ∀ (f g : Nat) (l : List UInt8), l.length <= f -> l.length <= g -> yap f l = yap g l
 | f, g, [], _, _ => by cases f <;> cases g <;> rfl
 | 0, g, b :: l, h, _ => by simp at h
 | f, 0, b :: l, _, h => by simp at h
 | f + 1, g + 1, b :: l, hf, hg => by
   rw [yap, yap]
   cases yao b l with
   | none => rfl
   | some x =>
     obtain ⟨u, k⟩ := x
     show (yap f (l.drop k)).map _ = (yap g (l.drop k)).map _
     rw [yau f g (l.drop k) (by simp at hf ⊢; omega) (by simp at hg ⊢; omega)]
theorem yav (b : UInt8) (l : List UInt8) : yaq (b :: l) = match yao b l with
 | none => none
 | some (u, k) => (yaq (l.drop k)).map (u :: ·) := by
 unfold yaq
 rw [List.length_cons, yap]
 cases yao b l with
 | none => rfl
 | some x =>
   obtain ⟨u, k⟩ := x
   show (yap l.length (l.drop k)).map _ = (yap (l.drop k).length (l.drop k)).map _
   rw [yau l.length (l.drop k).length (l.drop k) (by simp) jH]
theorem yaw : yaq [] = some [] := rfl
theorem yax {p : Nat} (hp : ptN p = true) (r : List UInt8) : ∃ b x, yar p = b :: x /\ yao b (x ++ r) = some (p, x.length) := by
 have hle := zzo hp
 unfold yar
 by_cases h1 : p < 128
 ·rw [if_pos h1]
  refine ⟨_, _, rfl, ?_⟩
  unfold yao yam
  rw [of8 (by omega), if_pos h1]
  simp [yan, hp]
 ·rw [if_neg h1]
  by_cases h2 : p < 2048
  ·rw [if_pos h2]
   refine ⟨_, _, rfl, ?_⟩
   unfold yao yam
   rw [of8 (by omega), if_neg (by omega), if_pos (by omega)]
   simp only [List.cons_append, List.nil_append, yan]
   rw [of8 (by omega), if_pos (by omega)]
   have e : (192 + p / 64 - 192) * 64 + (128 + p % 64) - 128 = p := by omega
   rw [e]
   simp only []
   rw [if_neg (by rw [hp]; simp; omega)]
   rfl
  ·rw [if_neg h2]
   by_cases h3 : p < 65536
   ·rw [if_pos h3]
    refine ⟨_, _, rfl, ?_⟩
    unfold yao yam
    rw [of8 (by omega), if_neg (by omega), if_neg (by omega), if_pos (by omega)]
    simp only [List.cons_append, List.nil_append, yan]
    rw [of8 (by omega), of8 (by omega), if_pos (by omega), if_pos (by omega)]
    have e : ((224 + p / 4096 - 224) * 64 + (128 + p / 64 % 64) - 128) * 64 + (128 + p % 64) - 128 = p := by omega
    rw [e]
    simp only []
    rw [if_neg (by rw [hp]; simp; omega)]
    rfl
   ·rw [if_neg h3]
    refine ⟨_, _, rfl, ?_⟩
    unfold yao yam
    rw [of8 (by omega), if_neg (by omega), if_neg (by omega), if_neg (by omega), if_pos (by omega)]
    simp only [List.cons_append, List.nil_append, yan]
    rw [of8 (by omega), of8 (by omega), of8 (by omega), if_pos (by omega), if_pos (by omega), if_pos (by omega)]
    have e : (((240 + p / 262144 - 240) * 64 + (128 + p / 4096 % 64) - 128) * 64 + (128 + p / 64 % 64) - 128) * 64 + (128 + p % 64) - 128 = p := by omega
    rw [e]
    simp only []
    rw [if_neg (by rw [hp]; simp; omega)]
    rfl
theorem yay : ∀ (P : List Nat), (∀ p ∈ P, ptN p = true) -> yaq (yas P) = some P
 | [], _ => rfl
 | p :: P, h => by
   obtain ⟨b, x, e, ho⟩ := yax (h p (by simp)) (yas P)
   have ih := yay P (fun q hq => h q (by simp [hq]))
   show yaq (yar p ++ yas P) = _
   rw [e, List.cons_append, yav, ho]
   show (yaq ((x ++ yas P).drop x.length)).map _ = _
   rw [List.drop_left, ih]
   rfl
theorem yaz : ∀ (k v : Nat) (l : List UInt8) (u : Nat), yan k v l = some u -> ∃ x, x.length = k /\ l = x ++ l.drop k /\ (∀ c ∈ x, 128 <= c.toNat /\ c.toNat <= 191) /\ u = x.foldl (fun a c => a * 64 + c.toNat - 128) v
 | 0, v, l, u, h => ⟨[], rfl, rfl, (fun c hc => by simp at hc), by injection h with h; exact h.symm⟩
 | k + 1, _, [], _, h => by simp [yan] at h
 | k + 1, v, c :: l, u, h => by
   rw [yan] at h
   split at h
   ·rename_i hc
    obtain ⟨x, h1, h2, h3, h4⟩ := yaz k _ l u h
    have h5 : c :: l = c :: (x ++ l.drop k) := congrArg (List.cons c) h2
    refine ⟨c :: x, by simp [h1], h5, ?_, by rw [List.foldl_cons]; exact h4⟩
    intro d hd
    rcases List.mem_cons.1 hd with rfl | hd
    ·exact hc
    ·exact h3 d hd
   ·cases h
theorem ya0 {c : UInt8} {n : Nat} (h : c.toNat = n) : UInt8.ofNat n = c := by
 rw [<- h]
 exact UInt8.ofNat_toNat
theorem ya1 {x : List UInt8} (h : x.length = 1) : ∃ c, x = [c] := by
 match x, h with
 | [c], _ => exact ⟨c, rfl⟩
theorem ya2 {x : List UInt8} (h : x.length = 2) : ∃ c d, x = [c, d] := by
 match x, h with
 | [c, d], _ => exact ⟨c, d, rfl⟩
theorem ya3 {x : List UInt8} (h : x.length = 3) : ∃ c d e, x = [c, d, e] := by
 match x, h with
 | [c, d, e], _ => exact ⟨c, d, e, rfl⟩
theorem ya4 {b : UInt8} {l : List UInt8} {u k : Nat} (h : yao b l = some (u, k)) : ptN u = true /\ k <= l.length /\ yar u ++ l.drop k = b :: l := by
 unfold yao at h
 cases hL : yam b.toNat with
 | none => rw [hL] at h; cases h
 | some q =>
   obtain ⟨k', v, least⟩ := q
   rw [hL] at h
   simp only [] at h
   cases hC : yan k' v l with
   | none => rw [hC] at h; cases h
   | some u' =>
     rw [hC] at h
     simp only [] at h
     split at h
     ·cases h
     ·rename_i hno
      injection h with h
      injection h with e1 e2
      subst e1 e2
      have hpt : ptN u' = true := by cases hh : ptN u' with
       | true => rfl
       | false => exact absurd (.inr hh) hno
      have hls : least <= u' := by
       by_cases hlt : u' < least
       ·exact absurd (.inl hlt) hno
       ·omega
      refine ⟨hpt, yat _ _ _ _ hC, ?_⟩
      obtain ⟨x, hx, hl, hr, hu⟩ := yaz _ _ _ _ hC
      have hb := b.toNat_lt
      suffices hs : yar u' = b :: x by rw [hs, List.cons_append, <- hl]
      clear hC hno hl
      unfold yam at hL
      split at hL
      ·rename_i h1
       obtain ⟨e1, e23⟩ := Prod.mk.inj (Option.some.inj hL)
       obtain ⟨e2, e3⟩ := Prod.mk.inj e23
       subst e1 e2 e3
       obtain rfl : x = [] := List.eq_nil_of_length_eq_zero hx
       have hu' : u' = b.toNat := hu
       unfold yar
       rw [if_pos (by omega), hu', UInt8.ofNat_toNat]
      ·rename_i h1
       split at hL
       ·rename_i h2
        obtain ⟨e1, e23⟩ := Prod.mk.inj (Option.some.inj hL)
        obtain ⟨e2, e3⟩ := Prod.mk.inj e23
        subst e1 e2 e3
        obtain ⟨c, rfl⟩ := ya1 hx
        have r1 := hr c (by simp)
        have hu' : u' = (b.toNat - 192) * 64 + c.toNat - 128 := hu
        unfold yar
        rw [if_neg (by omega), if_pos (by omega), ya0 (c := b) (by omega), ya0 (c := c) (by omega)]
       ·rename_i h2
        split at hL
        ·rename_i h3
         obtain ⟨e1, e23⟩ := Prod.mk.inj (Option.some.inj hL)
         obtain ⟨e2, e3⟩ := Prod.mk.inj e23
         subst e1 e2 e3
         obtain ⟨c, d, rfl⟩ := ya2 hx
         have r1 := hr c (by simp)
         have r2 := hr d (by simp)
         have hu' : u' = ((b.toNat - 224) * 64 + c.toNat - 128) * 64 + d.toNat - 128 := hu
         unfold yar
         rw [if_neg (by omega), if_neg (by omega), if_pos (by omega), ya0 (c := b) (by omega), ya0 (c := c) (by omega), ya0 (c := d) (by omega)]
        ·rename_i h3
         split at hL
         ·rename_i h4
          obtain ⟨e1, e23⟩ := Prod.mk.inj (Option.some.inj hL)
          obtain ⟨e2, e3⟩ := Prod.mk.inj e23
          subst e1 e2 e3
          obtain ⟨c, d, f, rfl⟩ := ya3 hx
          have r1 := hr c (by simp)
          have r2 := hr d (by simp)
          have r3 := hr f (by simp)
          have hu' : u' = (((b.toNat - 240) * 64 + c.toNat - 128) * 64 + d.toNat - 128) * 64 + f.toNat - 128 := hu
          have hle := zzo hpt
          unfold yar
          rw [if_neg (by omega), if_neg (by omega), if_neg (by omega), ya0 (c := b) (by omega), ya0 (c := c) (by omega), ya0 (c := d) (by omega), ya0 (c := f) (by omega)]
         ·cases hL
theorem ya5 : ∀ (f : Nat) (l : List UInt8) (P : List Nat), yap f l = some P -> (∀ p ∈ P, ptN p = true) /\ yas P = l
 | f, [], P, h => by
   have : P = [] := by cases f <;> (injection h with h; exact h.symm)
   subst this
   exact ⟨fun p hp => by simp at hp, rfl⟩
 | 0, b :: l, P, h => by simp [yap] at h
 | f + 1, b :: l, P, h => by
   rw [yap] at h
   cases ho : yao b l with
   | none => rw [ho] at h; cases h
   | some x =>
     obtain ⟨u, k⟩ := x
     rw [ho] at h
     simp only [] at h
     cases hg : yap f (l.drop k) with
     | none => rw [hg] at h; cases h
     | some Q =>
       rw [hg] at h
       injection h with h
       subst h
       obtain ⟨i1, i2⟩ := ya5 f _ Q hg
       obtain ⟨o1, _, o3⟩ := ya4 ho
       refine ⟨?_, ?_⟩
       ·intro p hp
        rcases List.mem_cons.1 hp with rfl | hp
        ·exact o1
        ·exact i1 p hp
       ·show yar u ++ yas Q = _
        rw [i2, o3]
theorem ya6 {l : List UInt8} {P : List Nat} (h : yaq l = some P) : (∀ p ∈ P, ptN p = true) /\ yas P = l := ya5 _ l P h
theorem ya7 (p : Nat) : 1 <= (yar p).length /\ (128 <= p -> 2 <= (yar p).length) /\ (p < 128 -> (yar p).length = 1) /\ (yar p).length <= 4 := by
 unfold yar
 split
 ·exact ⟨jH, fun _ => by omega, fun _ => rfl, by simp⟩
 ·split
  ·exact ⟨by simp, fun _ => by simp, fun _ => by omega, by simp⟩
  ·split
   ·exact ⟨by simp, fun _ => by simp, fun _ => by omega, by simp⟩
   ·exact ⟨by simp, fun _ => by simp, fun _ => by omega, by simp⟩
theorem ya8 : ∀ (P : List Nat), P.length <= (yas P).length /\ ((∃ p ∈ P, 128 <= p) -> P.length < (yas P).length) /\ ((∀ p ∈ P, p < 128) -> P.length = (yas P).length)
 | [] => ⟨jH, (fun ⟨p, hp, _⟩ => by simp at hp), fun _ => rfl⟩
 | p :: P => by
   obtain ⟨i1, i2, i3⟩ := ya8 P
   obtain ⟨a1, a2, a3, _⟩ := ya7 p
   have e : (yas (p :: P)).length = (yar p).length + (yas P).length := by
    show (yar p ++ yas P).length = _
    rw [List.length_append]
   rw [e, List.length_cons]
   refine ⟨by omega, ?_, ?_⟩
   ·rintro ⟨q, hq, h⟩
    rcases List.mem_cons.1 hq with rfl | hq
    ·have := a2 h; omega
    ·have := i2 ⟨q, hq, h⟩; omega
   ·intro h
    have h1 := a3 (h p (by simp))
    have h2 := i3 (fun q hq => h q (by simp [hq]))
    omega
theorem ya9 : ∀ (l : List UInt8), (∀ b ∈ l, b.toNat < 128) -> yas (l.map UInt8.toNat) = l
 | [], _ => rfl
 | b :: l, h => by
   show yar b.toNat ++ yas (l.map UInt8.toNat) = _
   rw [ya9 l (fun c hc => h c (by simp [hc]))]
   unfold yar
   rw [if_pos (h b (by simp)), UInt8.ofNat_toNat]
   rfl
theorem yba {n : Nat} (h : n < 128) : ptN n = true := by
 unfold ptN
 simp
 omega
theorem ybb {l : List UInt8} (h : ∀ b ∈ l, b.toNat < 128) : yaq l = some (l.map UInt8.toNat) := by
 have h2 := yay (l.map UInt8.toNat) (fun p hp => by obtain ⟨b, hb, rfl⟩ := List.mem_map.1 hp; exact yba (h b hb))
 rw [ya9 l h] at h2
 exact h2
def ybc (p : Nat) : Nat := if 65 <= p /\ p <= 90 then p + 32 else p
theorem ybd {b : UInt8} (h : b.toNat < 65 \/ 90 < b.toNat) : zbf b = b := by
 refine UInt8.toNat_inj.1 ?_
 have := zbh b
 unfold zbd zbb at this
 have hb : (decide (65 <= (b.toNat : Int)) && decide ((b.toNat : Int) <= 90)) = false := by simp; omega
 rw [hb] at this
 simp at this
 omega
theorem ybe {b : UInt8} (h : 65 <= b.toNat /\ b.toNat <= 90) : (zbf b).toNat = b.toNat + 32 := by
 have := zbh b
 unfold zbd zbb at this
 have hb : (decide (65 <= (b.toNat : Int)) && decide ((b.toNat : Int) <= 90)) = true := by simp; omega
 rw [hb] at this
 simp at this
 omega
theorem ybf : ∀ (k v : Nat) (l : List UInt8), yan k v (zbk l) = yan k v l
 | 0, _, _ => rfl
 | _ + 1, _, [] => rfl
 | k + 1, v, c :: l => by
   show (if 128 <= (zbf c).toNat /\ (zbf c).toNat <= 191 then yan k (v * 64 + (zbf c).toNat - 128) (zbk l) else none) = _
   rw [ybf, yan]
   by_cases h : 65 <= c.toNat /\ c.toNat <= 90
   ·have := ybe h
    rw [if_neg (by omega), if_neg (by omega)]
   ·rw [ybd (by omega)]
theorem ybg {p : Nat} (h : ptN p = true) : ptN (ybc p) = true := by
 unfold ybc
 split
 ·exact yba (by omega)
 ·exact h
theorem ybh (b : UInt8) (l : List UInt8) : yao (zbf b) (zbk l) = (yao b l).map fun x => (ybc x.1, x.2) := by
 unfold yao
 by_cases h : 65 <= b.toNat /\ b.toNat <= 90
 ·have hb := ybe h
  have l1 : yam (zbf b).toNat = some (0, b.toNat + 32, 0) := by unfold yam; rw [hb, if_pos (by omega)]
  have l2 : yam b.toNat = some (0, b.toNat, 0) := by unfold yam; rw [if_pos (by omega)]
  rw [l1, l2]
  simp only [yan]
  rw [if_neg (by rw [yba (by omega)]; simp), if_neg (by rw [yba (by omega)]; simp)]
  show some (b.toNat + 32, 0) = some (ybc b.toNat, 0)
  unfold ybc
  rw [if_pos h]
 ·rw [ybd (by omega)]
  cases hL : yam b.toNat with
  | none => rfl
  | some q =>
    obtain ⟨k, v, least⟩ := q
    simp only [ybf]
    cases hC : yan k v l with
    | none => rfl
    | some u =>
      simp only []
      split
      ·rfl
      ·rename_i hno
       show some (u, k) = some (ybc u, k)
       have hu : ybc u = u := by
        unfold ybc
        rw [if_neg]
        intro hc
        unfold yam at hL
        split at hL
        ·obtain ⟨e1, e23⟩ := Prod.mk.inj (Option.some.inj hL)
         obtain ⟨e2, e3⟩ := Prod.mk.inj e23
         subst e1 e2 e3
         injection hC with hC
         omega
        ·have : 128 <= least := by
          split at hL
          ·have e3 := (Prod.mk.inj (Prod.mk.inj (Option.some.inj hL)).2).2; omega
          ·split at hL
           ·have e3 := (Prod.mk.inj (Prod.mk.inj (Option.some.inj hL)).2).2; omega
           ·split at hL
            ·have e3 := (Prod.mk.inj (Prod.mk.inj (Option.some.inj hL)).2).2; omega
            ·cases hL
         exact hno (.inl (by omega))
       rw [hu]
theorem ybi : ∀ (f : Nat) (l : List UInt8), yap f (zbk l) = (yap f l).map (List.map ybc)
 | f, [] => by cases f <;> rfl
 | 0, b :: l => rfl
 | f + 1, b :: l => by
   show (match yao (zbf b) (zbk l) with
    | none => none
    | some (u, k) => (yap f ((zbk l).drop k)).map (u :: ·)) = _
   rw [ybh, yap]
   cases yao b l with
   | none => rfl
   | some x =>
     obtain ⟨u, k⟩ := x
     show (yap f ((zbk l).drop k)).map (ybc u :: ·) = ((yap f (l.drop k)).map (u :: ·)).map (List.map ybc)
     have e : (zbk l).drop k = zbk (l.drop k) := by unfold zbk; rw [List.map_drop]
     rw [e, ybi f (l.drop k)]
     cases yap f (l.drop k) with
     | none => rfl
     | some Q => rfl
theorem ybj (l : List UInt8) : yaq (zbk l) = (yaq l).map (List.map ybc) := by
 unfold yaq
 rw [zbm]
 exact ybi _ l
theorem ybk (p : Nat) : ybc (ybc p) = ybc p := by
 unfold ybc
 split
 ·rw [if_neg (by omega)]
 ·rfl
theorem ybl (P : List Nat) : (P.map ybc).map ybc = P.map ybc := by
 rw [List.map_map]
 exact List.map_congr_left fun p _ => ybk p
end

section
open Go.RowKit
set_option maxHeartbeats 16000000
def xnL : List UInt8 := [120, 110, 45, 45]
def okN (n : Nat) : Bool := (decide (97 <= n) && decide (n <= 122)) || (decide (48 <= n) && decide (n <= 57)) || n == 45 || n == 95
def zs1 (p : Nat) : Bool := decide (65 <= p) && decide (p <= 90)
def zs2 (r : List UInt8) : Bool := match zye r with
 | .error _ => false
 | .ok p => p.any (fun x => decide (128 <= x)) && p.all (fun x => !zs1 x) && decide (zyh p = r)
def zs3 (l : List UInt8) : Bool := decide (l ≠ []) && decide (l.length <= 63) && decide (l.head? ≠ some 45) && decide (l.getLast? ≠ some 45)
def zs4 (l : List UInt8) : Bool := zs3 l && l.all (fun b => okN b.toNat) && (decide (l.take 4 ≠ xnL) || zs2 (l.drop 4))
def zs5 (l : List UInt8) (P : List Nat) : List UInt8 := if P.length < l.length then xnL ++ zyh (P.map ybc) else zbk l
def toA (l : List UInt8) : Nat × List UInt8 := match yaq l with
 | none => (4, [])
 | some P => if 256 < P.length then (3, []) else if zs4 (zs5 l P) = true then (0, zs5 l P) else (14, [])
def zs6 (l : List UInt8) : List UInt8 := if l.take 4 = xnL then yas (puV' (l.drop 4)) else l
where puV' (r : List UInt8) : List Nat := match zye r with
 | .ok p => p
 | .error _ => []
def toU (l : List UInt8) : Nat × List UInt8 := if zs4 l = true then (0, zs6 l) else (14, [])
theorem zs7 {n : Nat} (h : okN n = true) : n < 128 /\ ¬ (65 <= n /\ n <= 90) := by
 unfold okN at h
 simp only [Bool.or_eq_true, Bool.and_eq_true, decide_eq_true_eq, beq_iff_eq] at h
 omega
theorem zs8 {l : List UInt8} (h : zs4 l = true) : (∀ b ∈ l, b.toNat < 128) /\ zbk l = l /\ l.length <= 63 := by
 unfold zs4 at h
 simp only [Bool.and_eq_true] at h
 have ha : ∀ b ∈ l, okN b.toNat = true := fun b hb => List.all_eq_true.1 h.1.2 b hb
 refine ⟨fun b hb => (zs7 (ha b hb)).1, ?_, ?_⟩
 ·unfold zbk
  have : l.map zbf = l.map id := List.map_congr_left fun b hb => ybd (by have := (zs7 (ha b hb)).2; omega)
  rw [this, List.map_id]
 ·have := h.1.1
  unfold zs3 at this
  simp only [Bool.and_eq_true, decide_eq_true_eq] at this
  omega
theorem zs9 {r : List UInt8} (h : zs2 r = true) : ∃ p, zye r = .ok p /\ (∀ x ∈ p, ptN x = true) /\ p.length <= 256 /\ (∃ x ∈ p, 128 <= x) /\ p.map ybc = p /\ zyh p = r := by
 unfold zs2 at h
 cases hd : zye r with
 | error e => rw [hd] at h; cases h
 | ok p =>
   rw [hd] at h
   simp only [Bool.and_eq_true, decide_eq_true_eq] at h
   obtain ⟨⟨h1, h2⟩, h3⟩ := h
   obtain ⟨e1, e2, _, _⟩ := zyq hd
   refine ⟨p, rfl, e1, e2, ?_, ?_, h3⟩
   ·obtain ⟨x, hx, hy⟩ := List.any_eq_true.1 h1
    exact ⟨x, hx, of_decide_eq_true hy⟩
   ·have : p.map ybc = p.map id := List.map_congr_left fun x hx => by
     have := List.all_eq_true.1 h2 x hx
     unfold zs1 at this
     unfold ybc
     rw [if_neg]
     ·rfl
     ·rintro ⟨a, b⟩
      rw [jT a, jT b] at this
      cases this
    rw [this, List.map_id]
theorem zta {a : List UInt8} (h : zs4 a = true) : toA a = (0, a) := by
 obtain ⟨h1, h2, h3⟩ := zs8 h
 unfold toA
 rw [ybb h1]
 have e : zs5 a (a.map UInt8.toNat) = a := by unfold zs5; rw [if_neg (by rw [List.length_map]; omega), h2]
 simp only [e]
 rw [if_neg (by rw [List.length_map]; omega), if_pos h]
theorem ztb (l : List UInt8) : toA (zbk l) = toA l := by
 unfold toA
 rw [ybj]
 cases yaq l with
 | none => rfl
 | some P =>
   have e : zs5 (zbk l) (P.map ybc) = zs5 l P := by
    unfold zs5
    rw [List.length_map, zbm, ybl, zbo]
   simp only [Option.map_some, e, List.length_map]
theorem ztc (l : List UInt8) : (toA l).1 = 0 /\ zs4 (toA l).2 = true \/ (toA l).1 ≠ 0 /\ (toA l).2 = [] := by
 unfold toA
 cases yaq l with
 | none => exact .inr ⟨(fun e => by cases e), rfl⟩
 | some P =>
   simp only []
   split
   ·exact .inr ⟨by decide, rfl⟩
   ·split
    ·rename_i h; exact .inl ⟨rfl, h⟩
    ·exact .inr ⟨by decide, rfl⟩
theorem ztd (l : List UInt8) : zs4 l = true /\ (toU l).1 = 0 \/ zs4 l = false /\ toU l = (14, []) := by
 unfold toU
 by_cases h : zs4 l = true
 ·rw [if_pos h]; exact .inl ⟨h, rfl⟩
 ·rw [if_neg h]; exact .inr ⟨by simpa using h, rfl⟩
end

section
open Go.RowKit
set_option maxHeartbeats 16000000
theorem z2l (c : UInt8) : zbe c = true ↔ 48 <= (c.toNat : Int) /\ (c.toNat : Int) <= 57 := by simp [zbe, zbc]
theorem z2m (s : ByteArray) : (ls s).isEmpty = decide (s.size = 0) := by
 rw [<- zb4]
 cases ls s <;> simp
theorem z2n (u : Nat) (h : ¬ u < 10) : Lib.decDigits u = Lib.decDigits (u / 10) ++ [UInt8.ofNat (48 + u % 10)] := by
 rw [Lib.decDigits, dif_neg h]
theorem z2o (d : Nat) (h : d < 10) : ((UInt8.ofNat (48 + d)).toNat : Int) = 48 + d := by
 rw [UInt8.toNat_ofNat']; omega
theorem z2p (d : Nat) (h : d < 10) : zbe (UInt8.ofNat (48 + d)) = true := by
 rw [z2l, z2o d h]; omega
theorem z2q (u : Nat) : (Lib.decDigits u).all zbe = true := by
 induction u using Nat.strongRecOn with
 | ind u ih =>
   by_cases h : u < 10
   ·rw [Lib.decDigits_one h]
    rw [List.all_cons, z2p u h]; rfl
   ·rw [z2n u h, List.all_append, ih (u / 10) (by omega)]
    rw [List.all_cons, z2p (u % 10) (by omega)]; rfl
theorem z2r (u : Nat) : Lib.decDigits u ≠ [] := by
 intro h
 have := Lib.decDigits_length u
 have h2 := Lib.nDigits_pos u
 rw [h] at this
 simp at this
 omega
end

section
open Go.RowKit
set_option maxHeartbeats 16000000
def z3a (c : UInt8) : List UInt8 -> List UInt8 -> List (List UInt8)
 | [], cur => [cur]
 | b :: r, cur => if b = c then cur :: z3a c r [] else z3a c r (cur ++ [b])
def z3b (c : UInt8) (l : List UInt8) : List (List UInt8) := z3a c l []
theorem z3c (c : UInt8) : ∀ l cur, z3a c l cur ≠ []
 | [], cur => by simp [z3a]
 | b :: r, cur => by unfold z3a; split <;> simp [z3c c r]
theorem z3d (c : UInt8) (l : List UInt8) : 0 < (z3b c l).length := List.length_pos_iff.2 (z3c c l [])
theorem z3e (c : UInt8) : ∀ l cur, (z3a c l cur).length <= l.length + 1
 | [], cur => by simp [z3a]
 | b :: r, cur => by
   unfold z3a
   split
   ·have := z3e c r []; simp; omega
   ·have := z3e c r (cur ++ [b]); simp; omega
theorem z3f (c : UInt8) (l : List UInt8) : (z3b c l).length <= l.length + 1 := z3e c l []
def noB (c : UInt8) (l : List UInt8) : Prop := ∀ b ∈ l, b ≠ c
theorem z3g (c : UInt8) : ∀ a cur r, noB c a -> z3a c (a ++ c :: r) cur = (cur ++ a) :: z3a c r []
 | [], cur, r, _ => by simp [z3a]
 | b :: a, cur, r, h => by
   have hb : b ≠ c := h b (by simp)
   rw [List.cons_append, z3a, if_neg hb, z3g c a (cur ++ [b]) r (fun x hx => h x (by simp [hx]))]
   simp
theorem z3h (c : UInt8) : ∀ a cur, noB c a -> z3a c a cur = [cur ++ a]
 | [], cur, _ => by simp [z3a]
 | b :: a, cur, h => by
   have hb : b ≠ c := h b (by simp)
   rw [z3a, if_neg hb, z3h c a (cur ++ [b]) (fun x hx => h x (by simp [hx]))]
   simp
theorem z3i (c : UInt8) (a r : List UInt8) (h : noB c a) : z3b c (a ++ c :: r) = a :: z3b c r := by
 unfold z3b; rw [z3g c a [] r h]; rfl
theorem z3j (c : UInt8) (a : List UInt8) (h : noB c a) : z3b c a = [a] := by
 unfold z3b; rw [z3h c a [] h]; rfl
def z3k (c : UInt8) : List (List UInt8) -> List UInt8
 | [] => []
 | [a] => a
 | a :: b :: r => a ++ c :: z3k c (b :: r)
theorem z3l (c : UInt8) (a : List UInt8) (p : List (List UInt8)) (h : p ≠ []) : z3k c (a :: p) = a ++ c :: z3k c p := by
 cases p with
 | nil => exact absurd rfl h
 | cons b r => rfl
theorem z3m (c : UInt8) : ∀ l cur, z3k c (z3a c l cur) = cur ++ l
 | [], cur => by simp [z3a, z3k]
 | b :: r, cur => by
   unfold z3a
   split
   ·rename_i h
    rw [z3l c _ _ (z3c c r []), z3m c r []]
    simp [h]
   ·rw [z3m c r (cur ++ [b])]; simp
theorem z3n (c : UInt8) (l : List UInt8) : z3k c (z3b c l) = l := by unfold z3b; rw [z3m]; rfl
theorem z3o (c : UInt8) : ∀ p : List (List UInt8), p ≠ [] -> (∀ a ∈ p, noB c a) -> z3b c (z3k c p) = p
 | [], h, _ => absurd rfl h
 | [a], _, h => z3j c a (h a (by simp))
 | a :: b :: r, _, h => by
   rw [z3k, z3i c a _ (h a (by simp)), z3o c (b :: r) (by simp) (fun x hx => h x (by simp at hx ⊢; exact .inr hx))]
theorem z3p (c : UInt8) : ∀ l cur, z3a c (l ++ [c]) cur = z3a c l cur ++ [[]]
 | [], cur => by simp [z3a]
 | b :: r, cur => by
   rw [List.cons_append, z3a, z3a]
   split
   ·rw [z3p c r []]; rfl
   ·rw [z3p c r (cur ++ [b])]
end

section
open Go.RowKit
set_option maxHeartbeats 16000000
def zqd (l : List UInt8) : List (List UInt8) := if 1 < (z3b 46 l).length /\ (z3b 46 l).getLast? = some [] then (z3b 46 l).dropLast else z3b 46 l
def zqe (b : UInt8) : Nat := if 48 <= b.toNat /\ b.toNat <= 57 then b.toNat - 48 else if 97 <= b.toNat /\ b.toNat <= 102 then b.toNat - 87 else if 65 <= b.toNat /\ b.toNat <= 70 then b.toNat - 55 else 99
def zqf (base : Nat) (a : Nat) : List UInt8 -> Nat
 | [] => a
 | c :: r => zqf base (a * base + zqe c) r
theorem zqg (base : Nat) : ∀ (l m : List UInt8) (a : Nat), zqf base a (l ++ m) = zqf base (zqf base a l) m
 | [], _, _ => rfl
 | c :: l, m, a => by rw [List.cons_append, zqf, zqf, zqg base l m]
def zqh : List UInt8 -> Nat × List UInt8
 | 48 :: b :: r => if b = 120 \/ b = 88 then (16, r) else (8, b :: r)
 | l => (10, l)
def zqi (l : List UInt8) : Option Nat := if l = [] then none else if (zqh l).2.all (fun c => decide (zqe c < (zqh l).1)) = true then some (zqf (zqh l).1 0 (zqh l).2) else none
def zqj (l : List UInt8) : Bool := (l.all zbe && !l.isEmpty) || ((zqi l).isSome && decide (2 <= l.length) && (l.getD 1 0 == 120 || l.getD 1 0 == 88))
def zqk (l : List UInt8) : Bool := zqj ((zqd l).getLastD [])
def zql : List (List UInt8) -> Nat -> Nat -> Option Nat
 | [], _, acc => some acc
 | [x], i, acc => match zqi x with
   | none => none
   | some n => if n < 256 ^ (4 - i) then some (acc + n) else none
 | x :: y :: r, i, acc => match zqi x with
   | none => none
   | some n => if n <= 255 then zql (y :: r) (i + 1) (acc + n * 256 ^ (3 - i)) else none
def pnL (l : List UInt8) : Option Nat := if 4 < (zqd l).length then none else zql (zqd l) 0 0
def zqm (l : List UInt8) : Option Nat := (List.range 256).find? fun n => decide (Lib.decDigits n = l)
def zqn (p : List (List UInt8)) : Option (Nat × Nat × Nat × Nat) := match p with
 | [a, b, c, d] => match zqm a, zqm b, zqm c, zqm d with
   | some a, some b, some c, some d => some (a, b, c, d)
   | _, _, _, _ => none
 | _ => none
def zqo (l : List UInt8) : Option Nat := (zqn (z3b 46 l)).map fun q => ((q.1 * 256 + q.2.1) * 256 + q.2.2.1) * 256 + q.2.2.2
def zqp (v : Nat) : List UInt8 := z3k 46 [Lib.decDigits (v / 16777216), Lib.decDigits (v / 65536 % 256), Lib.decDigits (v / 256 % 256), Lib.decDigits (v % 256)]
theorem zqq (d : Nat) (h : d < 10) : zqe (UInt8.ofNat (48 + d)) = d := by
 have := z2o d h
 have e : (UInt8.ofNat (48 + d)).toNat = 48 + d := by omega
 unfold zqe
 rw [e, if_pos (by omega)]
 omega
theorem zqr (c : UInt8) (h : zbe c = true) : zqe c = c.toNat - 48 /\ zqe c < 10 := by
 have := (z2l c).1 h
 unfold zqe
 rw [if_pos (by omega)]
 omega
theorem zqs : ∀ u : Nat, zqf 10 0 (Lib.decDigits u) = u := by
 intro u
 induction u using Nat.strongRecOn with
 | ind u ih =>
   by_cases hu : u < 10
   ·rw [Lib.decDigits_one hu, zqf, zqf, zqq u hu]; omega
   ·rw [z2n u hu, zqg, ih (u / 10) (by omega), zqf, zqf, zqq _ (by omega)]
    omega
theorem zqt (u : Nat) (h : 0 < u) : (Lib.decDigits u).head? ≠ some 48 := by
 induction u using Nat.strongRecOn with
 | ind u ih =>
   by_cases hu : u < 10
   ·rw [Lib.decDigits_one hu]
    simp only [List.head?_cons, ne_eq, Option.some.injEq]
    intro he
    have := z2o u hu
    rw [he] at this
    simp at this
    omega
   ·rw [z2n u hu]
    have h1 := ih (u / 10) (by omega) (by omega)
    have h2 := z2r (u / 10)
    cases hx : Lib.decDigits (u / 10) with
    | nil => exact absurd hx h2
    | cons c r => rw [hx] at h1; simpa using h1
theorem zqu (l : List UInt8) (h : l.head? ≠ some 48 \/ l.length <= 1) : zqh l = (10, l) := by
 unfold zqh
 split
 ·rename_i b r
  rcases h with h | h
  ·simp at h
  ·simp at h
 ·rfl
theorem zqv (b : UInt8) (r : List UInt8) (h : b = 120 \/ b = 88) : zqh (48 :: b :: r) = (16, r) := by
 show (if b = 120 \/ b = 88 then (16, r) else (8, b :: r)) = _
 rw [if_pos h]
theorem zqw (b : UInt8) (r : List UInt8) (h : ¬ (b = 120 \/ b = 88)) : zqh (48 :: b :: r) = (8, b :: r) := by
 show (if b = 120 \/ b = 88 then (16, r) else (8, b :: r)) = _
 rw [if_neg h]
theorem zqx (u : Nat) : zqh (Lib.decDigits u) = (10, Lib.decDigits u) := by
 by_cases h : u = 0
 ·subst h; rw [Lib.decDigits_one (by omega)]; exact zqu _ (.inr (by simp))
 ·exact zqu _ (.inl (zqt u (by omega)))
theorem zqy (u : Nat) : (Lib.decDigits u).all (fun c => decide (zqe c < 10)) = true := by
 have := z2q u
 rw [List.all_eq_true] at this ⊢
 intro c hc
 exact jT (zqr c (this c hc)).2
theorem zqz (u : Nat) : zqi (Lib.decDigits u) = some u := by
 unfold zqi
 rw [if_neg (z2r u), zqx, if_pos (zqy u), zqs]
theorem zq0 {u v : Nat} (h : Lib.decDigits u = Lib.decDigits v) : u = v := by
 have := zqs u
 rw [h, zqs] at this
 exact this.symm
theorem zq1 (u : Nat) : noB 46 (Lib.decDigits u) := by
 have := z2q u
 rw [List.all_eq_true] at this
 intro c hc he
 have := this c hc
 rw [he] at this
 simp [zbe, zbc] at this
theorem zq2 (n : Nat) (h : n < 256) : zqm (Lib.decDigits n) = some n := by
 unfold zqm
 cases hx : (List.range 256).find? fun m => decide (Lib.decDigits m = Lib.decDigits n) with
 | none =>
   rw [List.find?_eq_none] at hx
   have := hx n (by simp [h])
   simp at this
 | some m =>
   have := List.find?_some hx
   simp only [decide_eq_true_eq] at this
   rw [zq0 this]
theorem zq3 {l : List UInt8} {n : Nat} (h : zqm l = some n) : n < 256 /\ l = Lib.decDigits n := by
 unfold zqm at h
 have h1 := List.find?_some h
 have h2 := List.mem_of_find?_eq_some h
 simp only [decide_eq_true_eq] at h1
 exact ⟨by simpa using h2, h1.symm⟩
theorem zq4 (v : Nat) : z3b 46 (zqp v) = [Lib.decDigits (v / 16777216), Lib.decDigits (v / 65536 % 256), Lib.decDigits (v / 256 % 256), Lib.decDigits (v % 256)] := by
 unfold zqp
 refine z3o 46 _ (by simp) ?_
 intro a ha
 simp at ha
 rcases ha with rfl | rfl | rfl | rfl <;> exact zq1 _
theorem zq5 (v : Nat) (h : v < 4294967296) : zqo (zqp v) = some v := by
 unfold zqo
 rw [zq4]
 unfold zqn
 simp only [zq2 _ (show v / 16777216 < 256 by omega), zq2 _ (show v / 65536 % 256 < 256 by omega), zq2 _ (show v / 256 % 256 < 256 by omega), zq2 _ (show v % 256 < 256 by omega), Option.map_some, Option.some.injEq]
 omega
theorem zq6 {l : List UInt8} {p : List (List UInt8)} (h : z3b 46 l = p) (hl : p.getLast? ≠ some []) : zqd l = p := by
 unfold zqd
 rw [h, if_neg (fun h => hl h.2)]
theorem zq7 (v : Nat) : zqd (zqp v) = [Lib.decDigits (v / 16777216), Lib.decDigits (v / 65536 % 256), Lib.decDigits (v / 256 % 256), Lib.decDigits (v % 256)] := by
 refine zq6 (zq4 v) ?_
 simp only [List.getLast?_cons_cons, List.getLast?_singleton, ne_eq, Option.some.injEq]
 exact z2r _
theorem zq8 (v : Nat) (h : v < 4294967296) : pnL (zqp v) = some v := by
 unfold pnL
 rw [zq7, if_neg (by simp)]
 simp only [zql, zqz]
 rw [if_pos (by omega), if_pos (by omega), if_pos (by omega), if_pos (by omega)]
 simp only [Option.some.injEq]
 omega
theorem zq9 (u : Nat) : zqj (Lib.decDigits u) = true := by
 unfold zqj
 rw [z2q]
 cases h : Lib.decDigits u with
 | nil => exact absurd h (z2r u)
 | cons c r => rfl
theorem zra (v : Nat) : zqk (zqp v) = true := by
 unfold zqk
 rw [zq7]
 exact zq9 _
theorem zrb (l : List UInt8) : zqd (l ++ [46]) = z3b 46 l := by
 have h : z3b 46 (l ++ [46]) = z3b 46 l ++ [[]] := z3p 46 l []
 unfold zqd
 rw [h, if_pos ⟨by have := z3d 46 l; simp; omega, by simp⟩]
 simp
theorem zrc {p : List (List UInt8)} {q : Nat × Nat × Nat × Nat} (h : zqn p = some q) : q.1 < 256 /\ q.2.1 < 256 /\ q.2.2.1 < 256 /\ q.2.2.2 < 256 /\ p = [Lib.decDigits q.1, Lib.decDigits q.2.1, Lib.decDigits q.2.2.1, Lib.decDigits q.2.2.2] := by
 unfold zqn at h
 split at h
 ·rename_i a b c d
  cases ha : zqm a <;> cases hb : zqm b <;> cases hc : zqm c <;> cases hd : zqm d <;> simp only [ha, hb, hc, hd] at h <;> try (cases h; done)
  have h1 := zq3 ha
  have h2 := zq3 hb
  have h3 := zq3 hc
  have h4 := zq3 hd
  simp only [Option.some.injEq] at h
  subst h
  exact ⟨h1.1, h2.1, h3.1, h4.1, by rw [<- h1.2, <- h2.2, <- h3.2, <- h4.2]⟩
 ·cases h
theorem zrd {l : List UInt8} {v : Nat} (h : zqo l = some v) : v < 4294967296 /\ l = zqp v := by
 unfold zqo at h
 cases hq : zqn (z3b 46 l) with
 | none => rw [hq] at h; cases h
 | some q =>
   rw [hq] at h
   simp only [Option.map_some, Option.some.injEq] at h
   obtain ⟨h1, h2, h3, h4, hp⟩ := zrc hq
   refine ⟨by omega, ?_⟩
   rw [<- z3n 46 l, hp]
   unfold zqp
   rw [show v / 16777216 = q.1 by omega, show v / 65536 % 256 = q.2.1 by omega, show v / 256 % 256 = q.2.2.1 by omega, show v % 256 = q.2.2.2 by omega]
end

end Go.Proofs.YtekaljeicfjkjaaGreatDoor
