/-
Text in UTF-8 in plain words: its code points, and back; small letters. No program.
Labels in plain words: canonical labels, ToASCII, ToUnicode, and their laws. No program.
Plain mathematics of package seconds (layer 4): no program.
Splitting at a byte: no program.
IPv4 addresses in plain words: no program.
-/
import Derived.Test.YtekaljeicfjkjaaGreatDoorV01
import Derived.Lib.ItoaNum
namespace Go.Proofs.YtekaljeicfjkjaaGreatDoor
section
open Go.RowKit
set_option maxHeartbeats 16000000
def ya2 (b : Nat) : Option (Nat × Nat × Nat) :=
 if b < 128 then some (0, b, 0) else if 194 <= b /\ b < 224 then some (1, b - 192, 128) else if 224 <= b /\ b < 240 then some (2, b - 224, 2048)
 else if 240 <= b /\ b < 245 then some (3, b - 240, 65536) else none
def ya3 : Nat -> Nat -> List UInt8 -> Option Nat
 | 0, v, _ => some v
 | _ + 1, _, [] => none
 | k + 1, v, c :: l => if 128 <= c.toNat /\ c.toNat <= 191 then ya3 k (v * 64 + c.toNat - 128) l else none
def ya4 (b : UInt8) (l : List UInt8) : Option (Nat × Nat) := match ya2 b.toNat with
 | none => none
 | some (k, v, least) => match ya3 k v l with
   | none => none
   | some u => if u < least \/ ptN u = false then none else some (u, k)
def ya5 : Nat -> List UInt8 -> Option (List Nat)
 | _, [] => some []
 | 0, _ :: _ => none
 | f + 1, b :: l => match ya4 b l with
   | none => none
   | some (u, k) => (ya5 f (l.drop k)).map (u :: ·)
def ya6 (l : List UInt8) : Option (List Nat) := ya5 l.length l
def ya7 (p : Nat) : List UInt8 :=
 if p < 128 then [UInt8.ofNat p] else if p < 2048 then [UInt8.ofNat (192 + p / 64), UInt8.ofNat (128 + p % 64)]
 else if p < 65536 then [UInt8.ofNat (224 + p / 4096), UInt8.ofNat (128 + p / 64 % 64), UInt8.ofNat (128 + p % 64)]
 else [UInt8.ofNat (240 + p / 262144), UInt8.ofNat (128 + p / 4096 % 64), UInt8.ofNat (128 + p / 64 % 64), UInt8.ofNat (128 + p % 64)]
def ya8 (P : List Nat) : List UInt8 := P.flatMap ya7
theorem of8 {x : Nat} (h : x < 256) : (UInt8.ofNat x).toNat = x := by
 rw [UInt8.toNat_ofNat']
 omega
theorem ya9 : ∀ (k v : Nat) (l : List UInt8) (u : Nat), ya3 k v l = some u -> k <= l.length
 | 0, _, _, _, _ => Nat.zero_le _
 | k + 1, _, [], _, h => by simp [ya3] at h
 | k + 1, v, c :: l, u, h => by
   rw [ya3] at h
   split at h
   ·have := ya9 k _ l u h
    simp
    omega
   ·cases h
theorem yba : ∀ (f g : Nat) (l : List UInt8), l.length <= f -> l.length <= g -> ya5 f l = ya5 g l
 | f, g, [], _, _ => by cases f <;> cases g <;> rfl
 | 0, g, b :: l, h, _ => by simp at h
 | f, 0, b :: l, _, h => by simp at h
 | f + 1, g + 1, b :: l, hf, hg => by
   rw [ya5, ya5]
   cases ya4 b l with
   | none => rfl
   | some x =>
     obtain ⟨u, k⟩ := x
     show (ya5 f (l.drop k)).map _ = (ya5 g (l.drop k)).map _
     rw [yba f g (l.drop k) (by simp at hf ⊢; omega) (by simp at hg ⊢; omega)]
theorem ybb (b : UInt8) (l : List UInt8) : ya6 (b :: l) = match ya4 b l with
 | none => none
 | some (u, k) => (ya6 (l.drop k)).map (u :: ·) := by
 unfold ya6
 rw [List.length_cons, ya5]
 cases ya4 b l with
 | none => rfl
 | some x =>
   obtain ⟨u, k⟩ := x
   show (ya5 l.length (l.drop k)).map _ = (ya5 (l.drop k).length (l.drop k)).map _
   rw [yba l.length (l.drop k).length (l.drop k) (by simp) jH]
theorem ybc : ya6 [] = some [] := rfl
theorem ybd {p : Nat} (hp : ptN p = true) (r : List UInt8) : ∃ b x, ya7 p = b :: x /\ ya4 b (x ++ r) = some (p, x.length) := by
 have hle := zzr hp
 unfold ya7
 by_cases h1 : p < 128
 ·rw [if_pos h1]
  refine ⟨_, _, rfl, ?_⟩
  unfold ya4 ya2
  rw [of8 (by omega), if_pos h1]
  simp [ya3, hp]
 ·rw [if_neg h1]
  by_cases h2 : p < 2048
  ·rw [if_pos h2]
   refine ⟨_, _, rfl, ?_⟩
   unfold ya4 ya2
   rw [of8 (by omega), if_neg (by omega), if_pos (by omega)]
   simp only [List.cons_append, List.nil_append, ya3]
   rw [of8 (by omega), if_pos (by omega)]
   have e : (192 + p / 64 - 192) * 64 + (128 + p % 64) - 128 = p := by omega
   rw [e]
   simp only []
   rw [if_neg (by rw [hp]; simp; omega)]
   rfl
  ·rw [if_neg h2]
   by_cases h3 : p < 65536
   ·rw [if_pos h3]
    refine ⟨_, _, rfl, ?_⟩
    unfold ya4 ya2
    rw [of8 (by omega), if_neg (by omega), if_neg (by omega), if_pos (by omega)]
    simp only [List.cons_append, List.nil_append, ya3]
    rw [of8 (by omega), of8 (by omega), if_pos (by omega), if_pos (by omega)]
    have e : ((224 + p / 4096 - 224) * 64 + (128 + p / 64 % 64) - 128) * 64 + (128 + p % 64) - 128 = p := by omega
    rw [e]
    simp only []
    rw [if_neg (by rw [hp]; simp; omega)]
    rfl
   ·rw [if_neg h3]
    refine ⟨_, _, rfl, ?_⟩
    unfold ya4 ya2
    rw [of8 (by omega), if_neg (by omega), if_neg (by omega), if_neg (by omega), if_pos (by omega)]
    simp only [List.cons_append, List.nil_append, ya3]
    rw [of8 (by omega), of8 (by omega), of8 (by omega), if_pos (by omega), if_pos (by omega), if_pos (by omega)]
    have e : (((240 + p / 262144 - 240) * 64 + (128 + p / 4096 % 64) - 128) * 64 + (128 + p / 64 % 64) - 128) * 64 + (128 + p % 64) - 128 = p := by omega
    rw [e]
    simp only []
    rw [if_neg (by rw [hp]; simp; omega)]
    rfl
theorem ybe : ∀ (P : List Nat), (∀ p ∈ P, ptN p = true) -> ya6 (ya8 P) = some P
 | [], _ => rfl
 | p :: P, h => by
   obtain ⟨b, x, e, ho⟩ := ybd (h p (by simp)) (ya8 P)
   have ih := ybe P (fun q hq => h q (by simp [hq]))
   show ya6 (ya7 p ++ ya8 P) = _
   rw [e, List.cons_append, ybb, ho]
   show (ya6 ((x ++ ya8 P).drop x.length)).map _ = _
   rw [List.drop_left, ih]
   rfl
theorem ybf : ∀ (k v : Nat) (l : List UInt8) (u : Nat), ya3 k v l = some u -> ∃ x, x.length = k /\ l = x ++ l.drop k /\ (∀ c ∈ x, 128 <= c.toNat /\ c.toNat <= 191) /\ u = x.foldl (fun a c => a * 64 + c.toNat - 128) v
 | 0, v, l, u, h => ⟨[], rfl, rfl, (fun c hc => by simp at hc), by injection h with h; exact h.symm⟩
 | k + 1, _, [], _, h => by simp [ya3] at h
 | k + 1, v, c :: l, u, h => by
   rw [ya3] at h
   split at h
   ·rename_i hc
    obtain ⟨x, h1, h2, h3, h4⟩ := ybf k _ l u h
    have h5 : c :: l = c :: (x ++ l.drop k) := congrArg (List.cons c) h2
    refine ⟨c :: x, by simp [h1], h5, ?_, by rw [List.foldl_cons]; exact h4⟩
    intro d hd
    rcases List.mem_cons.1 hd with rfl | hd
    ·exact hc
    ·exact h3 d hd
   ·cases h
theorem ybg {c : UInt8} {n : Nat} (h : c.toNat = n) : UInt8.ofNat n = c := by
 rw [<- h]
 exact UInt8.ofNat_toNat
theorem ybh {x : List UInt8} (h : x.length = 1) : ∃ c, x = [c] := by
 match x, h with
 | [c], _ => exact ⟨c, rfl⟩
theorem ybi {x : List UInt8} (h : x.length = 2) : ∃ c d, x = [c, d] := by
 match x, h with
 | [c, d], _ => exact ⟨c, d, rfl⟩
theorem ybj {x : List UInt8} (h : x.length = 3) : ∃ c d e, x = [c, d, e] := by
 match x, h with
 | [c, d, e], _ => exact ⟨c, d, e, rfl⟩
theorem ybk {b : UInt8} {l : List UInt8} {u k : Nat} (h : ya4 b l = some (u, k)) : ptN u = true /\ k <= l.length /\ ya7 u ++ l.drop k = b :: l := by
 unfold ya4 at h
 cases hL : ya2 b.toNat with
 | none => rw [hL] at h; cases h
 | some q =>
   obtain ⟨k', v, least⟩ := q
   rw [hL] at h
   simp only [] at h
   cases hC : ya3 k' v l with
   | none => rw [hC] at h; cases h
   | some u' =>
     rw [hC] at h
     simp only [] at h
     split at h
     ·cases h
     ·rename_i hno
      injection h with h
      injection h with e1 e2
      subst e1 e2
      have hpt : ptN u' = true := by cases hh : ptN u' with
       | true => rfl
       | false => exact absurd (.inr hh) hno
      have hls : least <= u' := by
       by_cases hlt : u' < least
       ·exact absurd (.inl hlt) hno
       ·omega
      refine ⟨hpt, ya9 _ _ _ _ hC, ?_⟩
      obtain ⟨x, hx, hl, hr, hu⟩ := ybf _ _ _ _ hC
      have hb := b.toNat_lt
      suffices hs : ya7 u' = b :: x by rw [hs, List.cons_append, <- hl]
      clear hC hno hl
      unfold ya2 at hL
      split at hL
      ·rename_i h1
       obtain ⟨e1, e23⟩ := Prod.mk.inj (Option.some.inj hL)
       obtain ⟨e2, e3⟩ := Prod.mk.inj e23
       subst e1 e2 e3
       obtain rfl : x = [] := List.eq_nil_of_length_eq_zero hx
       have hu' : u' = b.toNat := hu
       unfold ya7
       rw [if_pos (by omega), hu', UInt8.ofNat_toNat]
      ·rename_i h1
       split at hL
       ·rename_i h2
        obtain ⟨e1, e23⟩ := Prod.mk.inj (Option.some.inj hL)
        obtain ⟨e2, e3⟩ := Prod.mk.inj e23
        subst e1 e2 e3
        obtain ⟨c, rfl⟩ := ybh hx
        have r1 := hr c (by simp)
        have hu' : u' = (b.toNat - 192) * 64 + c.toNat - 128 := hu
        unfold ya7
        rw [if_neg (by omega), if_pos (by omega), ybg (c := b) (by omega), ybg (c := c) (by omega)]
       ·rename_i h2
        split at hL
        ·rename_i h3
         obtain ⟨e1, e23⟩ := Prod.mk.inj (Option.some.inj hL)
         obtain ⟨e2, e3⟩ := Prod.mk.inj e23
         subst e1 e2 e3
         obtain ⟨c, d, rfl⟩ := ybi hx
         have r1 := hr c (by simp)
         have r2 := hr d (by simp)
         have hu' : u' = ((b.toNat - 224) * 64 + c.toNat - 128) * 64 + d.toNat - 128 := hu
         unfold ya7
         rw [if_neg (by omega), if_neg (by omega), if_pos (by omega), ybg (c := b) (by omega), ybg (c := c) (by omega), ybg (c := d) (by omega)]
        ·rename_i h3
         split at hL
         ·rename_i h4
          obtain ⟨e1, e23⟩ := Prod.mk.inj (Option.some.inj hL)
          obtain ⟨e2, e3⟩ := Prod.mk.inj e23
          subst e1 e2 e3
          obtain ⟨c, d, f, rfl⟩ := ybj hx
          have r1 := hr c (by simp)
          have r2 := hr d (by simp)
          have r3 := hr f (by simp)
          have hu' : u' = (((b.toNat - 240) * 64 + c.toNat - 128) * 64 + d.toNat - 128) * 64 + f.toNat - 128 := hu
          have hle := zzr hpt
          unfold ya7
          rw [if_neg (by omega), if_neg (by omega), if_neg (by omega), ybg (c := b) (by omega), ybg (c := c) (by omega), ybg (c := d) (by omega), ybg (c := f) (by omega)]
         ·cases hL
theorem ybl : ∀ (f : Nat) (l : List UInt8) (P : List Nat), ya5 f l = some P -> (∀ p ∈ P, ptN p = true) /\ ya8 P = l
 | f, [], P, h => by
   have : P = [] := by cases f <;> (injection h with h; exact h.symm)
   subst this
   exact ⟨fun p hp => by simp at hp, rfl⟩
 | 0, b :: l, P, h => by simp [ya5] at h
 | f + 1, b :: l, P, h => by
   rw [ya5] at h
   cases ho : ya4 b l with
   | none => rw [ho] at h; cases h
   | some x =>
     obtain ⟨u, k⟩ := x
     rw [ho] at h
     simp only [] at h
     cases hg : ya5 f (l.drop k) with
     | none => rw [hg] at h; cases h
     | some Q =>
       rw [hg] at h
       injection h with h
       subst h
       obtain ⟨i1, i2⟩ := ybl f _ Q hg
       obtain ⟨o1, _, o3⟩ := ybk ho
       refine ⟨?_, ?_⟩
       ·intro p hp
        rcases List.mem_cons.1 hp with rfl | hp
        ·exact o1
        ·exact i1 p hp
       ·show ya7 u ++ ya8 Q = _
        rw [i2, o3]
theorem ybm {l : List UInt8} {P : List Nat} (h : ya6 l = some P) : (∀ p ∈ P, ptN p = true) /\ ya8 P = l := ybl _ l P h
theorem ybn (p : Nat) : 1 <= (ya7 p).length /\ (128 <= p -> 2 <= (ya7 p).length) /\ (p < 128 -> (ya7 p).length = 1) /\ (ya7 p).length <= 4 := by
 unfold ya7
 split
 ·exact ⟨jH, fun _ => by omega, fun _ => rfl, by simp⟩
 ·split
  ·exact ⟨by simp, fun _ => by simp, fun _ => by omega, by simp⟩
  ·split
   ·exact ⟨by simp, fun _ => by simp, fun _ => by omega, by simp⟩
   ·exact ⟨by simp, fun _ => by simp, fun _ => by omega, by simp⟩
theorem ybo : ∀ (P : List Nat), P.length <= (ya8 P).length /\ ((∃ p ∈ P, 128 <= p) -> P.length < (ya8 P).length) /\ ((∀ p ∈ P, p < 128) -> P.length = (ya8 P).length)
 | [] => ⟨jH, (fun ⟨p, hp, _⟩ => by simp at hp), fun _ => rfl⟩
 | p :: P => by
   obtain ⟨i1, i2, i3⟩ := ybo P
   obtain ⟨a1, a2, a3, _⟩ := ybn p
   have e : (ya8 (p :: P)).length = (ya7 p).length + (ya8 P).length := by
    show (ya7 p ++ ya8 P).length = _
    rw [List.length_append]
   rw [e, List.length_cons]
   refine ⟨by omega, ?_, ?_⟩
   ·rintro ⟨q, hq, h⟩
    rcases List.mem_cons.1 hq with rfl | hq
    ·have := a2 h; omega
    ·have := i2 ⟨q, hq, h⟩; omega
   ·intro h
    have h1 := a3 (h p (by simp))
    have h2 := i3 (fun q hq => h q (by simp [hq]))
    omega
theorem ybp : ∀ (l : List UInt8), (∀ b ∈ l, b.toNat < 128) -> ya8 (l.map UInt8.toNat) = l
 | [], _ => rfl
 | b :: l, h => by
   show ya7 b.toNat ++ ya8 (l.map UInt8.toNat) = _
   rw [ybp l (fun c hc => h c (by simp [hc]))]
   unfold ya7
   rw [if_pos (h b (by simp)), UInt8.ofNat_toNat]
   rfl
theorem ybq {n : Nat} (h : n < 128) : ptN n = true := by
 unfold ptN
 simp
 omega
theorem ybr {l : List UInt8} (h : ∀ b ∈ l, b.toNat < 128) : ya6 l = some (l.map UInt8.toNat) := by
 have h2 := ybe (l.map UInt8.toNat) (fun p hp => by obtain ⟨b, hb, rfl⟩ := List.mem_map.1 hp; exact ybq (h b hb))
 rw [ybp l h] at h2
 exact h2
def ybs (p : Nat) : Nat := if 65 <= p /\ p <= 90 then p + 32 else p
theorem ybt {b : UInt8} (h : b.toNat < 65 \/ 90 < b.toNat) : zbf b = b := by
 refine UInt8.toNat_inj.1 ?_
 have := zbh b
 unfold zbd zbb at this
 have hb : (decide (65 <= (b.toNat : Int)) && decide ((b.toNat : Int) <= 90)) = false := by simp; omega
 rw [hb] at this
 simp at this
 omega
theorem ybu {b : UInt8} (h : 65 <= b.toNat /\ b.toNat <= 90) : (zbf b).toNat = b.toNat + 32 := by
 have := zbh b
 unfold zbd zbb at this
 have hb : (decide (65 <= (b.toNat : Int)) && decide ((b.toNat : Int) <= 90)) = true := by simp; omega
 rw [hb] at this
 simp at this
 omega
theorem ybv : ∀ (k v : Nat) (l : List UInt8), ya3 k v (zbk l) = ya3 k v l
 | 0, _, _ => rfl
 | _ + 1, _, [] => rfl
 | k + 1, v, c :: l => by
   show (if 128 <= (zbf c).toNat /\ (zbf c).toNat <= 191 then ya3 k (v * 64 + (zbf c).toNat - 128) (zbk l) else none) = _
   rw [ybv, ya3]
   by_cases h : 65 <= c.toNat /\ c.toNat <= 90
   ·have := ybu h
    rw [if_neg (by omega), if_neg (by omega)]
   ·rw [ybt (by omega)]
theorem ybw {p : Nat} (h : ptN p = true) : ptN (ybs p) = true := by
 unfold ybs
 split
 ·exact ybq (by omega)
 ·exact h
theorem ybx (b : UInt8) (l : List UInt8) : ya4 (zbf b) (zbk l) = (ya4 b l).map fun x => (ybs x.1, x.2) := by
 unfold ya4
 by_cases h : 65 <= b.toNat /\ b.toNat <= 90
 ·have hb := ybu h
  have l1 : ya2 (zbf b).toNat = some (0, b.toNat + 32, 0) := by unfold ya2; rw [hb, if_pos (by omega)]
  have l2 : ya2 b.toNat = some (0, b.toNat, 0) := by unfold ya2; rw [if_pos (by omega)]
  rw [l1, l2]
  simp only [ya3]
  rw [if_neg (by rw [ybq (by omega)]; simp), if_neg (by rw [ybq (by omega)]; simp)]
  show some (b.toNat + 32, 0) = some (ybs b.toNat, 0)
  unfold ybs
  rw [if_pos h]
 ·rw [ybt (by omega)]
  cases hL : ya2 b.toNat with
  | none => rfl
  | some q =>
    obtain ⟨k, v, least⟩ := q
    simp only [ybv]
    cases hC : ya3 k v l with
    | none => rfl
    | some u =>
      simp only []
      split
      ·rfl
      ·rename_i hno
       show some (u, k) = some (ybs u, k)
       have hu : ybs u = u := by
        unfold ybs
        rw [if_neg]
        intro hc
        unfold ya2 at hL
        split at hL
        ·obtain ⟨e1, e23⟩ := Prod.mk.inj (Option.some.inj hL)
         obtain ⟨e2, e3⟩ := Prod.mk.inj e23
         subst e1 e2 e3
         injection hC with hC
         omega
        ·have : 128 <= least := by
          split at hL
          ·have e3 := (Prod.mk.inj (Prod.mk.inj (Option.some.inj hL)).2).2; omega
          ·split at hL
           ·have e3 := (Prod.mk.inj (Prod.mk.inj (Option.some.inj hL)).2).2; omega
           ·split at hL
            ·have e3 := (Prod.mk.inj (Prod.mk.inj (Option.some.inj hL)).2).2; omega
            ·cases hL
         exact hno (.inl (by omega))
       rw [hu]
theorem yby : ∀ (f : Nat) (l : List UInt8), ya5 f (zbk l) = (ya5 f l).map (List.map ybs)
 | f, [] => by cases f <;> rfl
 | 0, b :: l => rfl
 | f + 1, b :: l => by
   show (match ya4 (zbf b) (zbk l) with
    | none => none
    | some (u, k) => (ya5 f ((zbk l).drop k)).map (u :: ·)) = _
   rw [ybx, ya5]
   cases ya4 b l with
   | none => rfl
   | some x =>
     obtain ⟨u, k⟩ := x
     show (ya5 f ((zbk l).drop k)).map (ybs u :: ·) = ((ya5 f (l.drop k)).map (u :: ·)).map (List.map ybs)
     have e : (zbk l).drop k = zbk (l.drop k) := by unfold zbk; rw [List.map_drop]
     rw [e, yby f (l.drop k)]
     cases ya5 f (l.drop k) with
     | none => rfl
     | some Q => rfl
theorem ybz (l : List UInt8) : ya6 (zbk l) = (ya6 l).map (List.map ybs) := by
 unfold ya6
 rw [zbm]
 exact yby _ l
theorem yb0 (p : Nat) : ybs (ybs p) = ybs p := by
 unfold ybs
 split
 ·rw [if_neg (by omega)]
 ·rfl
theorem yb1 (P : List Nat) : (P.map ybs).map ybs = P.map ybs := by
 rw [List.map_map]
 exact List.map_congr_left fun p _ => yb0 p
end

section
open Go.RowKit
set_option maxHeartbeats 16000000
def xnL : List UInt8 := [120, 110, 45, 45]
def okN (n : Nat) : Bool := (decide (97 <= n) && decide (n <= 122)) || (decide (48 <= n) && decide (n <= 57)) || n == 45 || n == 95
def zs4 (p : Nat) : Bool := decide (65 <= p) && decide (p <= 90)
def zs5 (r : List UInt8) : Bool := match zyh r with
 | .error _ => false
 | .ok p => p.any (fun x => decide (128 <= x)) && p.all (fun x => !zs4 x) && decide (zyk p = r)
def zs6 (l : List UInt8) : Bool := decide (l ≠ []) && decide (l.length <= 63) && decide (l.head? ≠ some 45) && decide (l.getLast? ≠ some 45)
def zs7 (l : List UInt8) : Bool := zs6 l && l.all (fun b => okN b.toNat) && (decide (l.take 4 ≠ xnL) || zs5 (l.drop 4))
def zs8 (l : List UInt8) (P : List Nat) : List UInt8 := if P.length < l.length then xnL ++ zyk (P.map ybs) else zbk l
def toA (l : List UInt8) : Nat × List UInt8 := match ya6 l with
 | none => (4, [])
 | some P => if 256 < P.length then (3, []) else if zs7 (zs8 l P) = true then (0, zs8 l P) else (14, [])
def zs9 (l : List UInt8) : List UInt8 := if l.take 4 = xnL then ya8 (puV' (l.drop 4)) else l
where puV' (r : List UInt8) : List Nat := match zyh r with
 | .ok p => p
 | .error _ => []
def toU (l : List UInt8) : Nat × List UInt8 := if zs7 l = true then (0, zs9 l) else (14, [])
theorem zta {n : Nat} (h : okN n = true) : n < 128 /\ ¬ (65 <= n /\ n <= 90) := by
 unfold okN at h
 simp only [Bool.or_eq_true, Bool.and_eq_true, decide_eq_true_eq, beq_iff_eq] at h
 omega
theorem ztb {l : List UInt8} (h : zs7 l = true) : (∀ b ∈ l, b.toNat < 128) /\ zbk l = l /\ l.length <= 63 := by
 unfold zs7 at h
 simp only [Bool.and_eq_true] at h
 have ha : ∀ b ∈ l, okN b.toNat = true := fun b hb => List.all_eq_true.1 h.1.2 b hb
 refine ⟨fun b hb => (zta (ha b hb)).1, ?_, ?_⟩
 ·unfold zbk
  have : l.map zbf = l.map id := List.map_congr_left fun b hb => ybt (by have := (zta (ha b hb)).2; omega)
  rw [this, List.map_id]
 ·have := h.1.1
  unfold zs6 at this
  simp only [Bool.and_eq_true, decide_eq_true_eq] at this
  omega
theorem ztc {r : List UInt8} (h : zs5 r = true) : ∃ p, zyh r = .ok p /\ (∀ x ∈ p, ptN x = true) /\ p.length <= 256 /\ (∃ x ∈ p, 128 <= x) /\ p.map ybs = p /\ zyk p = r := by
 unfold zs5 at h
 cases hd : zyh r with
 | error e => rw [hd] at h; cases h
 | ok p =>
   rw [hd] at h
   simp only [Bool.and_eq_true, decide_eq_true_eq] at h
   obtain ⟨⟨h1, h2⟩, h3⟩ := h
   obtain ⟨e1, e2, _, _⟩ := zyt hd
   refine ⟨p, rfl, e1, e2, ?_, ?_, h3⟩
   ·obtain ⟨x, hx, hy⟩ := List.any_eq_true.1 h1
    exact ⟨x, hx, of_decide_eq_true hy⟩
   ·have : p.map ybs = p.map id := List.map_congr_left fun x hx => by
     have := List.all_eq_true.1 h2 x hx
     unfold zs4 at this
     unfold ybs
     rw [if_neg]
     ·rfl
     ·rintro ⟨a, b⟩
      rw [jT a, jT b] at this
      cases this
    rw [this, List.map_id]
theorem ztd {a : List UInt8} (h : zs7 a = true) : toA a = (0, a) := by
 obtain ⟨h1, h2, h3⟩ := ztb h
 unfold toA
 rw [ybr h1]
 have e : zs8 a (a.map UInt8.toNat) = a := by unfold zs8; rw [if_neg (by rw [List.length_map]; omega), h2]
 simp only [e]
 rw [if_neg (by rw [List.length_map]; omega), if_pos h]
theorem zte (l : List UInt8) : toA (zbk l) = toA l := by
 unfold toA
 rw [ybz]
 cases ya6 l with
 | none => rfl
 | some P =>
   have e : zs8 (zbk l) (P.map ybs) = zs8 l P := by
    unfold zs8
    rw [List.length_map, zbm, yb1, zbo]
   simp only [Option.map_some, e, List.length_map]
theorem ztf (l : List UInt8) : (toA l).1 = 0 /\ zs7 (toA l).2 = true \/ (toA l).1 ≠ 0 /\ (toA l).2 = [] := by
 unfold toA
 cases ya6 l with
 | none => exact .inr ⟨(fun e => by cases e), rfl⟩
 | some P =>
   simp only []
   split
   ·exact .inr ⟨by decide, rfl⟩
   ·split
    ·rename_i h; exact .inl ⟨rfl, h⟩
    ·exact .inr ⟨by decide, rfl⟩
theorem ztg (l : List UInt8) : zs7 l = true /\ (toU l).1 = 0 \/ zs7 l = false /\ toU l = (14, []) := by
 unfold toU
 by_cases h : zs7 l = true
 ·rw [if_pos h]; exact .inl ⟨h, rfl⟩
 ·rw [if_neg h]; exact .inr ⟨by simpa using h, rfl⟩
end

section
open Go.RowKit
set_option maxHeartbeats 16000000
theorem z2o (c : UInt8) : zbe c = true ↔ 48 <= (c.toNat : Int) /\ (c.toNat : Int) <= 57 := by simp [zbe, zbc]
theorem z2p (s : ByteArray) : (ls s).isEmpty = decide (s.size = 0) := by
 rw [<- zb4]
 cases ls s <;> simp
theorem z2q (u : Nat) (h : ¬ u < 10) : Lib.decDigits u = Lib.decDigits (u / 10) ++ [UInt8.ofNat (48 + u % 10)] := by
 rw [Lib.decDigits, dif_neg h]
theorem z2r (d : Nat) (h : d < 10) : ((UInt8.ofNat (48 + d)).toNat : Int) = 48 + d := by
 rw [UInt8.toNat_ofNat']; omega
theorem z2s (d : Nat) (h : d < 10) : zbe (UInt8.ofNat (48 + d)) = true := by
 rw [z2o, z2r d h]; omega
theorem z2t (u : Nat) : (Lib.decDigits u).all zbe = true := by
 induction u using Nat.strongRecOn with
 | ind u ih =>
   by_cases h : u < 10
   ·rw [Lib.decDigits_one h]
    rw [List.all_cons, z2s u h]; rfl
   ·rw [z2q u h, List.all_append, ih (u / 10) (by omega)]
    rw [List.all_cons, z2s (u % 10) (by omega)]; rfl
theorem z2u (u : Nat) : Lib.decDigits u ≠ [] := by
 intro h
 have := Lib.decDigits_length u
 have h2 := Lib.nDigits_pos u
 rw [h] at this
 simp at this
 omega
end

section
open Go.RowKit
set_option maxHeartbeats 16000000
def z3d (c : UInt8) : List UInt8 -> List UInt8 -> List (List UInt8)
 | [], cur => [cur]
 | b :: r, cur => if b = c then cur :: z3d c r [] else z3d c r (cur ++ [b])
def z3e (c : UInt8) (l : List UInt8) : List (List UInt8) := z3d c l []
theorem z3f (c : UInt8) : ∀ l cur, z3d c l cur ≠ []
 | [], cur => by simp [z3d]
 | b :: r, cur => by unfold z3d; split <;> simp [z3f c r]
theorem z3g (c : UInt8) (l : List UInt8) : 0 < (z3e c l).length := List.length_pos_iff.2 (z3f c l [])
theorem z3h (c : UInt8) : ∀ l cur, (z3d c l cur).length <= l.length + 1
 | [], cur => by simp [z3d]
 | b :: r, cur => by
   unfold z3d
   split
   ·have := z3h c r []; simp; omega
   ·have := z3h c r (cur ++ [b]); simp; omega
theorem z3i (c : UInt8) (l : List UInt8) : (z3e c l).length <= l.length + 1 := z3h c l []
def noB (c : UInt8) (l : List UInt8) : Prop := ∀ b ∈ l, b ≠ c
theorem z3j (c : UInt8) : ∀ a cur r, noB c a -> z3d c (a ++ c :: r) cur = (cur ++ a) :: z3d c r []
 | [], cur, r, _ => by simp [z3d]
 | b :: a, cur, r, h => by
   have hb : b ≠ c := h b (by simp)
   rw [List.cons_append, z3d, if_neg hb, z3j c a (cur ++ [b]) r (fun x hx => h x (by simp [hx]))]
   simp
theorem z3k (c : UInt8) : ∀ a cur, noB c a -> z3d c a cur = [cur ++ a]
 | [], cur, _ => by simp [z3d]
 | b :: a, cur, h => by
   have hb : b ≠ c := h b (by simp)
   rw [z3d, if_neg hb, z3k c a (cur ++ [b]) (fun x hx => h x (by simp [hx]))]
   simp
theorem z3l (c : UInt8) (a r : List UInt8) (h : noB c a) : z3e c (a ++ c :: r) = a :: z3e c r := by
 unfold z3e; rw [z3j c a [] r h]; rfl
theorem z3m (c : UInt8) (a : List UInt8) (h : noB c a) : z3e c a = [a] := by
 unfold z3e; rw [z3k c a [] h]; rfl
def z3n (c : UInt8) : List (List UInt8) -> List UInt8
 | [] => []
 | [a] => a
 | a :: b :: r => a ++ c :: z3n c (b :: r)
theorem z3o (c : UInt8) (a : List UInt8) (p : List (List UInt8)) (h : p ≠ []) : z3n c (a :: p) = a ++ c :: z3n c p := by
 cases p with
 | nil => exact absurd rfl h
 | cons b r => rfl
theorem z3p (c : UInt8) : ∀ l cur, z3n c (z3d c l cur) = cur ++ l
 | [], cur => by simp [z3d, z3n]
 | b :: r, cur => by
   unfold z3d
   split
   ·rename_i h
    rw [z3o c _ _ (z3f c r []), z3p c r []]
    simp [h]
   ·rw [z3p c r (cur ++ [b])]; simp
theorem z3q (c : UInt8) (l : List UInt8) : z3n c (z3e c l) = l := by unfold z3e; rw [z3p]; rfl
theorem z3r (c : UInt8) : ∀ p : List (List UInt8), p ≠ [] -> (∀ a ∈ p, noB c a) -> z3e c (z3n c p) = p
 | [], h, _ => absurd rfl h
 | [a], _, h => z3m c a (h a (by simp))
 | a :: b :: r, _, h => by
   rw [z3n, z3l c a _ (h a (by simp)), z3r c (b :: r) (by simp) (fun x hx => h x (by simp at hx ⊢; exact .inr hx))]
theorem z3s (c : UInt8) : ∀ l cur, z3d c (l ++ [c]) cur = z3d c l cur ++ [[]]
 | [], cur => by simp [z3d]
 | b :: r, cur => by
   rw [List.cons_append, z3d, z3d]
   split
   ·rw [z3s c r []]; rfl
   ·rw [z3s c r (cur ++ [b])]
end

section
open Go.RowKit
set_option maxHeartbeats 16000000
def zqg (l : List UInt8) : List (List UInt8) := if 1 < (z3e 46 l).length /\ (z3e 46 l).getLast? = some [] then (z3e 46 l).dropLast else z3e 46 l
def zqh (b : UInt8) : Nat := if 48 <= b.toNat /\ b.toNat <= 57 then b.toNat - 48 else if 97 <= b.toNat /\ b.toNat <= 102 then b.toNat - 87 else if 65 <= b.toNat /\ b.toNat <= 70 then b.toNat - 55 else 99
def zqi (base : Nat) (a : Nat) : List UInt8 -> Nat
 | [] => a
 | c :: r => zqi base (a * base + zqh c) r
theorem zqj (base : Nat) : ∀ (l m : List UInt8) (a : Nat), zqi base a (l ++ m) = zqi base (zqi base a l) m
 | [], _, _ => rfl
 | c :: l, m, a => by rw [List.cons_append, zqi, zqi, zqj base l m]
def zqk : List UInt8 -> Nat × List UInt8
 | 48 :: b :: r => if b = 120 \/ b = 88 then (16, r) else (8, b :: r)
 | l => (10, l)
def zql (l : List UInt8) : Option Nat := if l = [] then none else if (zqk l).2.all (fun c => decide (zqh c < (zqk l).1)) = true then some (zqi (zqk l).1 0 (zqk l).2) else none
def zqm (l : List UInt8) : Bool := (l.all zbe && !l.isEmpty) || ((zql l).isSome && decide (2 <= l.length) && (l.getD 1 0 == 120 || l.getD 1 0 == 88))
def zqn (l : List UInt8) : Bool := zqm ((zqg l).getLastD [])
def zqo : List (List UInt8) -> Nat -> Nat -> Option Nat
 | [], _, acc => some acc
 | [x], i, acc => match zql x with
   | none => none
   | some n => if n < 256 ^ (4 - i) then some (acc + n) else none
 | x :: y :: r, i, acc => match zql x with
   | none => none
   | some n => if n <= 255 then zqo (y :: r) (i + 1) (acc + n * 256 ^ (3 - i)) else none
def pnL (l : List UInt8) : Option Nat := if 4 < (zqg l).length then none else zqo (zqg l) 0 0
def zqp (l : List UInt8) : Option Nat := (List.range 256).find? fun n => decide (Lib.decDigits n = l)
def zqq (p : List (List UInt8)) : Option (Nat × Nat × Nat × Nat) := match p with
 | [a, b, c, d] => match zqp a, zqp b, zqp c, zqp d with
   | some a, some b, some c, some d => some (a, b, c, d)
   | _, _, _, _ => none
 | _ => none
def zqr (l : List UInt8) : Option Nat := (zqq (z3e 46 l)).map fun q => ((q.1 * 256 + q.2.1) * 256 + q.2.2.1) * 256 + q.2.2.2
def zqs (v : Nat) : List UInt8 := z3n 46 [Lib.decDigits (v / 16777216), Lib.decDigits (v / 65536 % 256), Lib.decDigits (v / 256 % 256), Lib.decDigits (v % 256)]
theorem zqt (d : Nat) (h : d < 10) : zqh (UInt8.ofNat (48 + d)) = d := by
 have := z2r d h
 have e : (UInt8.ofNat (48 + d)).toNat = 48 + d := by omega
 unfold zqh
 rw [e, if_pos (by omega)]
 omega
theorem zqu (c : UInt8) (h : zbe c = true) : zqh c = c.toNat - 48 /\ zqh c < 10 := by
 have := (z2o c).1 h
 unfold zqh
 rw [if_pos (by omega)]
 omega
theorem zqv : ∀ u : Nat, zqi 10 0 (Lib.decDigits u) = u := by
 intro u
 induction u using Nat.strongRecOn with
 | ind u ih =>
   by_cases hu : u < 10
   ·rw [Lib.decDigits_one hu, zqi, zqi, zqt u hu]; omega
   ·rw [z2q u hu, zqj, ih (u / 10) (by omega), zqi, zqi, zqt _ (by omega)]
    omega
theorem zqw (u : Nat) (h : 0 < u) : (Lib.decDigits u).head? ≠ some 48 := by
 induction u using Nat.strongRecOn with
 | ind u ih =>
   by_cases hu : u < 10
   ·rw [Lib.decDigits_one hu]
    simp only [List.head?_cons, ne_eq, Option.some.injEq]
    intro he
    have := z2r u hu
    rw [he] at this
    simp at this
    omega
   ·rw [z2q u hu]
    have h1 := ih (u / 10) (by omega) (by omega)
    have h2 := z2u (u / 10)
    cases hx : Lib.decDigits (u / 10) with
    | nil => exact absurd hx h2
    | cons c r => rw [hx] at h1; simpa using h1
theorem zqx (l : List UInt8) (h : l.head? ≠ some 48 \/ l.length <= 1) : zqk l = (10, l) := by
 unfold zqk
 split
 ·rename_i b r
  rcases h with h | h
  ·simp at h
  ·simp at h
 ·rfl
theorem zqy (b : UInt8) (r : List UInt8) (h : b = 120 \/ b = 88) : zqk (48 :: b :: r) = (16, r) := by
 show (if b = 120 \/ b = 88 then (16, r) else (8, b :: r)) = _
 rw [if_pos h]
theorem zqz (b : UInt8) (r : List UInt8) (h : ¬ (b = 120 \/ b = 88)) : zqk (48 :: b :: r) = (8, b :: r) := by
 show (if b = 120 \/ b = 88 then (16, r) else (8, b :: r)) = _
 rw [if_neg h]
theorem zq0 (u : Nat) : zqk (Lib.decDigits u) = (10, Lib.decDigits u) := by
 by_cases h : u = 0
 ·subst h; rw [Lib.decDigits_one (by omega)]; exact zqx _ (.inr (by simp))
 ·exact zqx _ (.inl (zqw u (by omega)))
theorem zq1 (u : Nat) : (Lib.decDigits u).all (fun c => decide (zqh c < 10)) = true := by
 have := z2t u
 rw [List.all_eq_true] at this ⊢
 intro c hc
 exact jT (zqu c (this c hc)).2
theorem zq2 (u : Nat) : zql (Lib.decDigits u) = some u := by
 unfold zql
 rw [if_neg (z2u u), zq0, if_pos (zq1 u), zqv]
theorem zq3 {u v : Nat} (h : Lib.decDigits u = Lib.decDigits v) : u = v := by
 have := zqv u
 rw [h, zqv] at this
 exact this.symm
theorem zq4 (u : Nat) : noB 46 (Lib.decDigits u) := by
 have := z2t u
 rw [List.all_eq_true] at this
 intro c hc he
 have := this c hc
 rw [he] at this
 simp [zbe, zbc] at this
theorem zq5 (n : Nat) (h : n < 256) : zqp (Lib.decDigits n) = some n := by
 unfold zqp
 cases hx : (List.range 256).find? fun m => decide (Lib.decDigits m = Lib.decDigits n) with
 | none =>
   rw [List.find?_eq_none] at hx
   have := hx n (by simp [h])
   simp at this
 | some m =>
   have := List.find?_some hx
   simp only [decide_eq_true_eq] at this
   rw [zq3 this]
theorem zq6 {l : List UInt8} {n : Nat} (h : zqp l = some n) : n < 256 /\ l = Lib.decDigits n := by
 unfold zqp at h
 have h1 := List.find?_some h
 have h2 := List.mem_of_find?_eq_some h
 simp only [decide_eq_true_eq] at h1
 exact ⟨by simpa using h2, h1.symm⟩
theorem zq7 (v : Nat) : z3e 46 (zqs v) = [Lib.decDigits (v / 16777216), Lib.decDigits (v / 65536 % 256), Lib.decDigits (v / 256 % 256), Lib.decDigits (v % 256)] := by
 unfold zqs
 refine z3r 46 _ (by simp) ?_
 intro a ha
 simp at ha
 rcases ha with rfl | rfl | rfl | rfl <;> exact zq4 _
theorem zq8 (v : Nat) (h : v < 4294967296) : zqr (zqs v) = some v := by
 unfold zqr
 rw [zq7]
 unfold zqq
 simp only [zq5 _ (show v / 16777216 < 256 by omega), zq5 _ (show v / 65536 % 256 < 256 by omega), zq5 _ (show v / 256 % 256 < 256 by omega), zq5 _ (show v % 256 < 256 by omega), Option.map_some, Option.some.injEq]
 omega
theorem zq9 {l : List UInt8} {p : List (List UInt8)} (h : z3e 46 l = p) (hl : p.getLast? ≠ some []) : zqg l = p := by
 unfold zqg
 rw [h, if_neg (fun h => hl h.2)]
theorem zra (v : Nat) : zqg (zqs v) = [Lib.decDigits (v / 16777216), Lib.decDigits (v / 65536 % 256), Lib.decDigits (v / 256 % 256), Lib.decDigits (v % 256)] := by
 refine zq9 (zq7 v) ?_
 simp only [List.getLast?_cons_cons, List.getLast?_singleton, ne_eq, Option.some.injEq]
 exact z2u _
theorem zrb (v : Nat) (h : v < 4294967296) : pnL (zqs v) = some v := by
 unfold pnL
 rw [zra, if_neg (by simp)]
 simp only [zqo, zq2]
 rw [if_pos (by omega), if_pos (by omega), if_pos (by omega), if_pos (by omega)]
 simp only [Option.some.injEq]
 omega
theorem zrc (u : Nat) : zqm (Lib.decDigits u) = true := by
 unfold zqm
 rw [z2t]
 cases h : Lib.decDigits u with
 | nil => exact absurd h (z2u u)
 | cons c r => rfl
theorem zrd (v : Nat) : zqn (zqs v) = true := by
 unfold zqn
 rw [zra]
 exact zrc _
theorem zre (l : List UInt8) : zqg (l ++ [46]) = z3e 46 l := by
 have h : z3e 46 (l ++ [46]) = z3e 46 l ++ [[]] := z3s 46 l []
 unfold zqg
 rw [h, if_pos ⟨by have := z3g 46 l; simp; omega, by simp⟩]
 simp
theorem zrf {p : List (List UInt8)} {q : Nat × Nat × Nat × Nat} (h : zqq p = some q) : q.1 < 256 /\ q.2.1 < 256 /\ q.2.2.1 < 256 /\ q.2.2.2 < 256 /\ p = [Lib.decDigits q.1, Lib.decDigits q.2.1, Lib.decDigits q.2.2.1, Lib.decDigits q.2.2.2] := by
 unfold zqq at h
 split at h
 ·rename_i a b c d
  cases ha : zqp a <;> cases hb : zqp b <;> cases hc : zqp c <;> cases hd : zqp d <;> simp only [ha, hb, hc, hd] at h <;> try (cases h; done)
  have h1 := zq6 ha
  have h2 := zq6 hb
  have h3 := zq6 hc
  have h4 := zq6 hd
  simp only [Option.some.injEq] at h
  subst h
  exact ⟨h1.1, h2.1, h3.1, h4.1, by rw [<- h1.2, <- h2.2, <- h3.2, <- h4.2]⟩
 ·cases h
theorem zrg {l : List UInt8} {v : Nat} (h : zqr l = some v) : v < 4294967296 /\ l = zqs v := by
 unfold zqr at h
 cases hq : zqq (z3e 46 l) with
 | none => rw [hq] at h; cases h
 | some q =>
   rw [hq] at h
   simp only [Option.map_some, Option.some.injEq] at h
   obtain ⟨h1, h2, h3, h4, hp⟩ := zrf hq
   refine ⟨by omega, ?_⟩
   rw [<- z3q 46 l, hp]
   unfold zqs
   rw [show v / 16777216 = q.1 by omega, show v / 65536 % 256 = q.2.1 by omega, show v / 256 % 256 = q.2.2.1 by omega, show v % 256 = q.2.2.2 by omega]
end

end Go.Proofs.YtekaljeicfjkjaaGreatDoor
