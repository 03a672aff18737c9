/-
Text in UTF-8 in plain words: its code points, and back; small letters. No program.
The library's own decoding of UTF-8 in the words of UtfP: what is valid, how many code points there are, the first one, the bytes of one. No program.
-/
import Derived.Test.YthoolifdmemceaaGreatDoorB05
import Derived.Test.YthoolifdmemceaaGreatDoorB00
import Derived.Lib.ValidU
import Derived.Lib.ValidLaws
import Derived.Lib.MapLaws
import Derived.Lib.RuneCount
import Derived.Lib.RuneBytes
namespace Go.Proofs.YthoolifdmemceaaGreatDoor
section
open Go.RowKit

/-- What a first byte says: how many bytes, the value so far, the least value. -/
def lead8 (b : Nat) : Option (Nat × Nat × Nat) :=
  if b < 128 then some (0, b, 0) else if 194 ≤ b ∧ b < 224 then some (1, b - 192, 128) else if 224 ≤ b ∧ b < 240 then some (2, b - 224, 2048)
  else if 240 ≤ b ∧ b < 245 then some (3, b - 240, 65536) else none
/-- The value behind k further bytes. -/
def cont8 : Nat → Nat → List UInt8 → Option Nat
  | 0, v, _ => some v
  | _ + 1, _, [] => none
  | k + 1, v, c :: l => if 128 ≤ c.toNat ∧ c.toNat ≤ 191 then cont8 k (v * 64 + c.toNat - 128) l else none
/-- The first code point, and how many bytes there are behind its first. -/
def one8 (b : UInt8) (l : List UInt8) : Option (Nat × Nat) := match lead8 b.toNat with
  | none => none
  | some (k, v, least) => match cont8 k v l with
    | none => none
    | some u => if u < least ∨ ptN u = false then none else some (u, k)
def ptsGo : Nat → List UInt8 → Option (List Nat)
  | _, [] => some []
  | 0, _ :: _ => none
  | f + 1, b :: l => match one8 b l with
    | none => none
    | some (u, k) => (ptsGo f (l.drop k)).map (u :: ·)
def ptsL (l : List UInt8) : Option (List Nat) := ptsGo l.length l
/-- A code point in UTF-8. -/
def txt8 (p : Nat) : List UInt8 :=
  if p < 128 then [UInt8.ofNat p] else if p < 2048 then [UInt8.ofNat (192 + p / 64), UInt8.ofNat (128 + p % 64)]
  else if p < 65536 then [UInt8.ofNat (224 + p / 4096), UInt8.ofNat (128 + p / 64 % 64), UInt8.ofNat (128 + p % 64)]
  else [UInt8.ofNat (240 + p / 262144), UInt8.ofNat (128 + p / 4096 % 64), UInt8.ofNat (128 + p / 64 % 64), UInt8.ofNat (128 + p % 64)]
def txtL (P : List Nat) : List UInt8 := P.flatMap txt8

theorem of8 {x : Nat} (h : x < 256) : (UInt8.ofNat x).toNat = x := by
  rw [UInt8.toNat_ofNat']
  omega
theorem cont8_drop : ∀ (k v : Nat) (l : List UInt8) (u : Nat), cont8 k v l = some u → k ≤ l.length
  | 0, _, _, _, _ => Nat.zero_le _
  | k + 1, _, [], _, h => by simp [cont8] at h
  | k + 1, v, c :: l, u, h => by
    rw [cont8] at h
    split at h
    · have := cont8_drop k _ l u h
      simp
      omega
    · cases h
theorem ptsGo_fuel : ∀ (f g : Nat) (l : List UInt8), l.length ≤ f → l.length ≤ g → ptsGo f l = ptsGo g l
  | f, g, [], _, _ => by cases f <;> cases g <;> rfl
  | 0, g, b :: l, h, _ => by simp at h
  | f, 0, b :: l, _, h => by simp at h
  | f + 1, g + 1, b :: l, hf, hg => by
    rw [ptsGo, ptsGo]
    cases one8 b l with
    | none => rfl
    | some x =>
      obtain ⟨u, k⟩ := x
      show (ptsGo f (l.drop k)).map _ = (ptsGo g (l.drop k)).map _
      rw [ptsGo_fuel f g (l.drop k) (by simp at hf ⊢; omega) (by simp at hg ⊢; omega)]
theorem ptsL_cons (b : UInt8) (l : List UInt8) : ptsL (b :: l) = match one8 b l with
    | none => none
    | some (u, k) => (ptsL (l.drop k)).map (u :: ·) := by
  unfold ptsL
  rw [List.length_cons, ptsGo]
  cases one8 b l with
  | none => rfl
  | some x =>
    obtain ⟨u, k⟩ := x
    show (ptsGo l.length (l.drop k)).map _ = (ptsGo (l.drop k).length (l.drop k)).map _
    rw [ptsGo_fuel l.length (l.drop k).length (l.drop k) (by simp) (Nat.le_refl _)]
theorem ptsL_nil : ptsL [] = some [] := rfl

/-- A code point's bytes are read as this code point. -/
theorem one8_txt {p : Nat} (hp : ptN p = true) (r : List UInt8) : ∃ b x, txt8 p = b :: x ∧ one8 b (x ++ r) = some (p, x.length) := by
  have hle := ptN_le hp
  unfold txt8
  by_cases h1 : p < 128
  · rw [if_pos h1]
    refine ⟨_, _, rfl, ?_⟩
    unfold one8 lead8
    rw [of8 (by omega), if_pos h1]
    simp [cont8, hp]
  · rw [if_neg h1]
    by_cases h2 : p < 2048
    · rw [if_pos h2]
      refine ⟨_, _, rfl, ?_⟩
      unfold one8 lead8
      rw [of8 (by omega), if_neg (by omega), if_pos (by omega)]
      simp only [List.cons_append, List.nil_append, cont8]
      rw [of8 (by omega), if_pos (by omega)]
      have e : (192 + p / 64 - 192) * 64 + (128 + p % 64) - 128 = p := by omega
      rw [e]
      simp only []
      rw [if_neg (by rw [hp]; simp; omega)]
      rfl
    · rw [if_neg h2]
      by_cases h3 : p < 65536
      · rw [if_pos h3]
        refine ⟨_, _, rfl, ?_⟩
        unfold one8 lead8
        rw [of8 (by omega), if_neg (by omega), if_neg (by omega), if_pos (by omega)]
        simp only [List.cons_append, List.nil_append, cont8]
        rw [of8 (by omega), of8 (by omega), if_pos (by omega), if_pos (by omega)]
        have e : ((224 + p / 4096 - 224) * 64 + (128 + p / 64 % 64) - 128) * 64 + (128 + p % 64) - 128 = p := by omega
        rw [e]
        simp only []
        rw [if_neg (by rw [hp]; simp; omega)]
        rfl
      · rw [if_neg h3]
        refine ⟨_, _, rfl, ?_⟩
        unfold one8 lead8
        rw [of8 (by omega), if_neg (by omega), if_neg (by omega), if_neg (by omega), if_pos (by omega)]
        simp only [List.cons_append, List.nil_append, cont8]
        rw [of8 (by omega), of8 (by omega), of8 (by omega), if_pos (by omega), if_pos (by omega), if_pos (by omega)]
        have e : (((240 + p / 262144 - 240) * 64 + (128 + p / 4096 % 64) - 128) * 64 + (128 + p / 64 % 64) - 128) * 64 + (128 + p % 64) - 128 = p := by omega
        rw [e]
        simp only []
        rw [if_neg (by rw [hp]; simp; omega)]
        rfl
theorem pts_txt : ∀ (P : List Nat), (∀ p ∈ P, ptN p = true) → ptsL (txtL P) = some P
  | [], _ => rfl
  | p :: P, h => by
    obtain ⟨b, x, e, ho⟩ := one8_txt (h p (by simp)) (txtL P)
    have ih := pts_txt P (fun q hq => h q (by simp [hq]))
    show ptsL (txt8 p ++ txtL P) = _
    rw [e, List.cons_append, ptsL_cons, ho]
    show (ptsL ((x ++ txtL P).drop x.length)).map _ = _
    rw [List.drop_left, ih]
    rfl
theorem cont8_take : ∀ (k v : Nat) (l : List UInt8) (u : Nat), cont8 k v l = some u → ∃ x, x.length = k ∧ l = x ++ l.drop k ∧ (∀ c ∈ x, 128 ≤ c.toNat ∧ c.toNat ≤ 191) ∧ u = x.foldl (fun a c => a * 64 + c.toNat - 128) v
  | 0, v, l, u, h => ⟨[], rfl, rfl, (fun c hc => by simp at hc), by injection h with h; exact h.symm⟩
  | k + 1, _, [], _, h => by simp [cont8] at h
  | k + 1, v, c :: l, u, h => by
    rw [cont8] at h
    split at h
    · rename_i hc
      obtain ⟨x, h1, h2, h3, h4⟩ := cont8_take k _ l u h
      have h5 : c :: l = c :: (x ++ l.drop k) := congrArg (List.cons c) h2
      refine ⟨c :: x, by simp [h1], h5, ?_, by rw [List.foldl_cons]; exact h4⟩
      intro d hd
      rcases List.mem_cons.1 hd with rfl | hd
      · exact hc
      · exact h3 d hd
    · cases h
theorem u8_eq {c : UInt8} {n : Nat} (h : c.toNat = n) : UInt8.ofNat n = c := by
  rw [← h]
  exact UInt8.ofNat_toNat
theorem list1 {x : List UInt8} (h : x.length = 1) : ∃ c, x = [c] := by
  match x, h with
  | [c], _ => exact ⟨c, rfl⟩
theorem list2 {x : List UInt8} (h : x.length = 2) : ∃ c d, x = [c, d] := by
  match x, h with
  | [c, d], _ => exact ⟨c, d, rfl⟩
theorem list3 {x : List UInt8} (h : x.length = 3) : ∃ c d e, x = [c, d, e] := by
  match x, h with
  | [c, d, e], _ => exact ⟨c, d, e, rfl⟩
/-- What is read as a code point are this code point's bytes. -/
theorem txt_one8 {b : UInt8} {l : List UInt8} {u k : Nat} (h : one8 b l = some (u, k)) : ptN u = true ∧ k ≤ l.length ∧ txt8 u ++ l.drop k = b :: l := by
  unfold one8 at h
  cases hL : lead8 b.toNat with
  | none => rw [hL] at h; cases h
  | some q =>
    obtain ⟨k', v, least⟩ := q
    rw [hL] at h
    simp only [] at h
    cases hC : cont8 k' v l with
    | none => rw [hC] at h; cases h
    | some u' =>
      rw [hC] at h
      simp only [] at h
      split at h
      · cases h
      · rename_i hno
        injection h with h
        injection h with e1 e2
        subst e1 e2
        have hpt : ptN u' = true := by cases hh : ptN u' with
          | true => rfl
          | false => exact absurd (.inr hh) hno
        have hls : least ≤ u' := by
          by_cases hlt : u' < least
          · exact absurd (.inl hlt) hno
          · omega
        refine ⟨hpt, cont8_drop _ _ _ _ hC, ?_⟩
        obtain ⟨x, hx, hl, hr, hu⟩ := cont8_take _ _ _ _ hC
        have hb := b.toNat_lt
        suffices hs : txt8 u' = b :: x by rw [hs, List.cons_append, ← hl]
        clear hC hno hl
        unfold lead8 at hL
        split at hL
        · rename_i h1
          obtain ⟨e1, e23⟩ := Prod.mk.inj (Option.some.inj hL)
          obtain ⟨e2, e3⟩ := Prod.mk.inj e23
          subst e1 e2 e3
          obtain rfl : x = [] := List.eq_nil_of_length_eq_zero hx
          have hu' : u' = b.toNat := hu
          unfold txt8
          rw [if_pos (by omega), hu', UInt8.ofNat_toNat]
        · rename_i h1
          split at hL
          · rename_i h2
            obtain ⟨e1, e23⟩ := Prod.mk.inj (Option.some.inj hL)
            obtain ⟨e2, e3⟩ := Prod.mk.inj e23
            subst e1 e2 e3
            obtain ⟨c, rfl⟩ := list1 hx
            have r1 := hr c (by simp)
            have hu' : u' = (b.toNat - 192) * 64 + c.toNat - 128 := hu
            unfold txt8
            rw [if_neg (by omega), if_pos (by omega), u8_eq (c := b) (by omega), u8_eq (c := c) (by omega)]
          · rename_i h2
            split at hL
            · rename_i h3
              obtain ⟨e1, e23⟩ := Prod.mk.inj (Option.some.inj hL)
              obtain ⟨e2, e3⟩ := Prod.mk.inj e23
              subst e1 e2 e3
              obtain ⟨c, d, rfl⟩ := list2 hx
              have r1 := hr c (by simp)
              have r2 := hr d (by simp)
              have hu' : u' = ((b.toNat - 224) * 64 + c.toNat - 128) * 64 + d.toNat - 128 := hu
              unfold txt8
              rw [if_neg (by omega), if_neg (by omega), if_pos (by omega), u8_eq (c := b) (by omega), u8_eq (c := c) (by omega), u8_eq (c := d) (by omega)]
            · rename_i h3
              split at hL
              · rename_i h4
                obtain ⟨e1, e23⟩ := Prod.mk.inj (Option.some.inj hL)
                obtain ⟨e2, e3⟩ := Prod.mk.inj e23
                subst e1 e2 e3
                obtain ⟨c, d, f, rfl⟩ := list3 hx
                have r1 := hr c (by simp)
                have r2 := hr d (by simp)
                have r3 := hr f (by simp)
                have hu' : u' = (((b.toNat - 240) * 64 + c.toNat - 128) * 64 + d.toNat - 128) * 64 + f.toNat - 128 := hu
                have hle := ptN_le hpt
                unfold txt8
                rw [if_neg (by omega), if_neg (by omega), if_neg (by omega), u8_eq (c := b) (by omega), u8_eq (c := c) (by omega), u8_eq (c := d) (by omega), u8_eq (c := f) (by omega)]
              · cases hL
theorem txt_ptsGo : ∀ (f : Nat) (l : List UInt8) (P : List Nat), ptsGo f l = some P → (∀ p ∈ P, ptN p = true) ∧ txtL P = l
  | f, [], P, h => by
    have : P = [] := by cases f <;> (injection h with h; exact h.symm)
    subst this
    exact ⟨fun p hp => by simp at hp, rfl⟩
  | 0, b :: l, P, h => by simp [ptsGo] at h
  | f + 1, b :: l, P, h => by
    rw [ptsGo] at h
    cases ho : one8 b l with
    | none => rw [ho] at h; cases h
    | some x =>
      obtain ⟨u, k⟩ := x
      rw [ho] at h
      simp only [] at h
      cases hg : ptsGo f (l.drop k) with
      | none => rw [hg] at h; cases h
      | some Q =>
        rw [hg] at h
        injection h with h
        subst h
        obtain ⟨i1, i2⟩ := txt_ptsGo f _ Q hg
        obtain ⟨o1, _, o3⟩ := txt_one8 ho
        refine ⟨?_, ?_⟩
        · intro p hp
          rcases List.mem_cons.1 hp with rfl | hp
          · exact o1
          · exact i1 p hp
        · show txt8 u ++ txtL Q = _
          rw [i2, o3]
theorem txt_pts {l : List UInt8} {P : List Nat} (h : ptsL l = some P) : (∀ p ∈ P, ptN p = true) ∧ txtL P = l := txt_ptsGo _ l P h

theorem txt8_len (p : Nat) : 1 ≤ (txt8 p).length ∧ (128 ≤ p → 2 ≤ (txt8 p).length) ∧ (p < 128 → (txt8 p).length = 1) ∧ (txt8 p).length ≤ 4 := by
  unfold txt8
  split
  · exact ⟨Nat.le_refl _, fun _ => by omega, fun _ => rfl, by simp⟩
  · split
    · exact ⟨by simp, fun _ => by simp, fun _ => by omega, by simp⟩
    · split
      · exact ⟨by simp, fun _ => by simp, fun _ => by omega, by simp⟩
      · exact ⟨by simp, fun _ => by simp, fun _ => by omega, by simp⟩
theorem txtL_len : ∀ (P : List Nat), P.length ≤ (txtL P).length ∧ ((∃ p ∈ P, 128 ≤ p) → P.length < (txtL P).length) ∧ ((∀ p ∈ P, p < 128) → P.length = (txtL P).length)
  | [] => ⟨Nat.le_refl _, (fun ⟨p, hp, _⟩ => by simp at hp), fun _ => rfl⟩
  | p :: P => by
    obtain ⟨i1, i2, i3⟩ := txtL_len P
    obtain ⟨a1, a2, a3, _⟩ := txt8_len p
    have e : (txtL (p :: P)).length = (txt8 p).length + (txtL P).length := by
      show (txt8 p ++ txtL P).length = _
      rw [List.length_append]
    rw [e, List.length_cons]
    refine ⟨by omega, ?_, ?_⟩
    · rintro ⟨q, hq, h⟩
      rcases List.mem_cons.1 hq with rfl | hq
      · have := a2 h; omega
      · have := i2 ⟨q, hq, h⟩; omega
    · intro h
      have h1 := a3 (h p (by simp))
      have h2 := i3 (fun q hq => h q (by simp [hq]))
      omega
theorem txtL_ascii : ∀ (l : List UInt8), (∀ b ∈ l, b.toNat < 128) → txtL (l.map UInt8.toNat) = l
  | [], _ => rfl
  | b :: l, h => by
    show txt8 b.toNat ++ txtL (l.map UInt8.toNat) = _
    rw [txtL_ascii l (fun c hc => h c (by simp [hc]))]
    unfold txt8
    rw [if_pos (h b (by simp)), UInt8.ofNat_toNat]
    rfl
theorem ptN_ascii {n : Nat} (h : n < 128) : ptN n = true := by
  unfold ptN
  simp
  omega
theorem pts_ascii {l : List UInt8} (h : ∀ b ∈ l, b.toNat < 128) : ptsL l = some (l.map UInt8.toNat) := by
  have h2 := pts_txt (l.map UInt8.toNat) (fun p hp => by obtain ⟨b, hb, rfl⟩ := List.mem_map.1 hp; exact ptN_ascii (h b hb))
  rw [txtL_ascii l h] at h2
  exact h2

/-- Small letters, of code points. -/
def lowP (p : Nat) : Nat := if 65 ≤ p ∧ p ≤ 90 then p + 32 else p
theorem lowU_small {b : UInt8} (h : b.toNat < 65 ∨ 90 < b.toNat) : lowU b = b := by
  refine UInt8.toNat_inj.1 ?_
  have := lowU_toNat b
  unfold lowI upperB at this
  have hb : (decide (65 ≤ (b.toNat : Int)) && decide ((b.toNat : Int) ≤ 90)) = false := by simp; omega
  rw [hb] at this
  simp at this
  omega
theorem lowU_big {b : UInt8} (h : 65 ≤ b.toNat ∧ b.toNat ≤ 90) : (lowU b).toNat = b.toNat + 32 := by
  have := lowU_toNat b
  unfold lowI upperB at this
  have hb : (decide (65 ≤ (b.toNat : Int)) && decide ((b.toNat : Int) ≤ 90)) = true := by simp; omega
  rw [hb] at this
  simp at this
  omega
theorem lowU_nat (b : UInt8) : (lowU b).toNat = lowP b.toNat := by
  unfold lowP
  split
  · rename_i h; exact lowU_big h
  · rename_i h; rw [lowU_small (by omega)]
theorem cont8_low : ∀ (k v : Nat) (l : List UInt8), cont8 k v (lowL l) = cont8 k v l
  | 0, _, _ => rfl
  | _ + 1, _, [] => rfl
  | k + 1, v, c :: l => by
    show (if 128 ≤ (lowU c).toNat ∧ (lowU c).toNat ≤ 191 then cont8 k (v * 64 + (lowU c).toNat - 128) (lowL l) else none) = _
    rw [cont8_low, cont8]
    by_cases h : 65 ≤ c.toNat ∧ c.toNat ≤ 90
    · have := lowU_big h
      rw [if_neg (by omega), if_neg (by omega)]
    · rw [lowU_small (by omega)]
theorem lowP_pt {p : Nat} (h : ptN p = true) : ptN (lowP p) = true := by
  unfold lowP
  split
  · exact ptN_ascii (by omega)
  · exact h
theorem one8_low (b : UInt8) (l : List UInt8) : one8 (lowU b) (lowL l) = (one8 b l).map fun x => (lowP x.1, x.2) := by
  unfold one8
  by_cases h : 65 ≤ b.toNat ∧ b.toNat ≤ 90
  · have hb := lowU_big h
    have l1 : lead8 (lowU b).toNat = some (0, b.toNat + 32, 0) := by unfold lead8; rw [hb, if_pos (by omega)]
    have l2 : lead8 b.toNat = some (0, b.toNat, 0) := by unfold lead8; rw [if_pos (by omega)]
    rw [l1, l2]
    simp only [cont8]
    rw [if_neg (by rw [ptN_ascii (by omega)]; simp), if_neg (by rw [ptN_ascii (by omega)]; simp)]
    show some (b.toNat + 32, 0) = some (lowP b.toNat, 0)
    unfold lowP
    rw [if_pos h]
  · rw [lowU_small (by omega)]
    cases hL : lead8 b.toNat with
    | none => rfl
    | some q =>
      obtain ⟨k, v, least⟩ := q
      simp only [cont8_low]
      cases hC : cont8 k v l with
      | none => rfl
      | some u =>
        simp only []
        split
        · rfl
        · rename_i hno
          show some (u, k) = some (lowP u, k)
          have hu : lowP u = u := by
            unfold lowP
            rw [if_neg]
            intro hc
            unfold lead8 at hL
            split at hL
            · obtain ⟨e1, e23⟩ := Prod.mk.inj (Option.some.inj hL)
              obtain ⟨e2, e3⟩ := Prod.mk.inj e23
              subst e1 e2 e3
              injection hC with hC
              omega
            · have : 128 ≤ least := by
                split at hL
                · have e3 := (Prod.mk.inj (Prod.mk.inj (Option.some.inj hL)).2).2; omega
                · split at hL
                  · have e3 := (Prod.mk.inj (Prod.mk.inj (Option.some.inj hL)).2).2; omega
                  · split at hL
                    · have e3 := (Prod.mk.inj (Prod.mk.inj (Option.some.inj hL)).2).2; omega
                    · cases hL
              exact hno (.inl (by omega))
          rw [hu]
theorem ptsGo_low : ∀ (f : Nat) (l : List UInt8), ptsGo f (lowL l) = (ptsGo f l).map (List.map lowP)
  | f, [] => by cases f <;> rfl
  | 0, b :: l => rfl
  | f + 1, b :: l => by
    show (match one8 (lowU b) (lowL l) with
      | none => none
      | some (u, k) => (ptsGo f ((lowL l).drop k)).map (u :: ·)) = _
    rw [one8_low, ptsGo]
    cases one8 b l with
    | none => rfl
    | some x =>
      obtain ⟨u, k⟩ := x
      show (ptsGo f ((lowL l).drop k)).map (lowP u :: ·) = ((ptsGo f (l.drop k)).map (u :: ·)).map (List.map lowP)
      have e : (lowL l).drop k = lowL (l.drop k) := by unfold lowL; rw [List.map_drop]
      rw [e, ptsGo_low f (l.drop k)]
      cases ptsGo f (l.drop k) with
      | none => rfl
      | some Q => rfl
theorem pts_low (l : List UInt8) : ptsL (lowL l) = (ptsL l).map (List.map lowP) := by
  unfold ptsL
  rw [lowL_length]
  exact ptsGo_low _ l
theorem lowP_lowP (p : Nat) : lowP (lowP p) = lowP p := by
  unfold lowP
  split
  · rw [if_neg (by omega)]
  · rfl
theorem lowP_map (P : List Nat) : (P.map lowP).map lowP = P.map lowP := by
  rw [List.map_map]
  exact List.map_congr_left fun p _ => lowP_lowP p
end

section
open Go.RowKit

/-- 'one8' over numbers: n bytes are left, the first four as numbers. -/
def badU (u least : Nat) : Prop := u < least ∨ ¬ (u ≤ 1114111 ∧ (u < 55296 ∨ 57343 < u))
instance (u least : Nat) : Decidable (badU u least) := by unfold badU; exact inferInstance
def oneN (n b0 b1 b2 b3 : Nat) : Option (Nat × Nat) :=
  if b0 < 128 then some (b0, 0)
  else if 194 ≤ b0 ∧ b0 < 224 then (if 1 < n ∧ 128 ≤ b1 ∧ b1 ≤ 191 then some ((b0 - 192) * 64 + b1 - 128, 1) else none)
  else if 224 ≤ b0 ∧ b0 < 240 then (if (1 < n ∧ 128 ≤ b1 ∧ b1 ≤ 191) ∧ (2 < n ∧ 128 ≤ b2 ∧ b2 ≤ 191) then
      (if badU (((b0 - 224) * 64 + b1 - 128) * 64 + b2 - 128) 2048 then none else some (((b0 - 224) * 64 + b1 - 128) * 64 + b2 - 128, 2)) else none)
  else if 240 ≤ b0 ∧ b0 < 245 then (if (1 < n ∧ 128 ≤ b1 ∧ b1 ≤ 191) ∧ (2 < n ∧ 128 ≤ b2 ∧ b2 ≤ 191) ∧ (3 < n ∧ 128 ≤ b3 ∧ b3 ≤ 191) then
      (if badU ((((b0 - 240) * 64 + b1 - 128) * 64 + b2 - 128) * 64 + b3 - 128) 65536 then none else some ((((b0 - 240) * 64 + b1 - 128) * 64 + b2 - 128) * 64 + b3 - 128, 3)) else none)
  else none
theorem ptN_iff (u : Nat) : ptN u = true ↔ u ≤ 1114111 ∧ (u < 55296 ∨ 57343 < u) := by
  unfold ptN
  simp only [Bool.and_eq_true, Bool.or_eq_true, decide_eq_true_eq]
theorem badU_iff (u least : Nat) : (u < least ∨ ptN u = false) ↔ badU u least := by
  unfold badU
  rw [← ptN_iff, Bool.not_eq_true]
theorem one8_2 (b : UInt8) (l : List UInt8) (h : 194 ≤ b.toNat ∧ b.toNat < 224) : one8 b l = oneN (l.length + 1) b.toNat (l.getD 0 0).toNat (l.getD 1 0).toNat (l.getD 2 0).toNat := by
  have e : lead8 b.toNat = some (1, b.toNat - 192, 128) := by unfold lead8; rw [if_neg (by omega), if_pos h]
  unfold one8 oneN
  rw [e, if_neg (by omega), if_pos h]
  rcases l with _ | ⟨c, t⟩
  · rw [if_neg (by simp)]
    rfl
  · simp only [cont8]
    rw [show ((c :: t).getD 0 0) = c from rfl]
    by_cases hc : 128 ≤ c.toNat ∧ c.toNat ≤ 191
    · rw [if_pos hc, if_pos ⟨by simp, hc⟩]
      simp only []
      rw [if_neg]
      rw [badU_iff]
      unfold badU
      omega
    · rw [if_neg hc, if_neg (fun x => hc x.2)]
theorem one8_3 (b : UInt8) (l : List UInt8) (h : 224 ≤ b.toNat ∧ b.toNat < 240) : one8 b l = oneN (l.length + 1) b.toNat (l.getD 0 0).toNat (l.getD 1 0).toNat (l.getD 2 0).toNat := by
  have e : lead8 b.toNat = some (2, b.toNat - 224, 2048) := by unfold lead8; rw [if_neg (by omega), if_neg (by omega), if_pos h]
  unfold one8 oneN
  rw [e, if_neg (by omega), if_neg (by omega), if_pos h]
  rcases l with _ | ⟨c, _ | ⟨d, t⟩⟩
  · rw [if_neg (by simp)]
    rfl
  · rw [if_neg (by simp)]
    simp only [cont8]
    by_cases hc : 128 ≤ c.toNat ∧ c.toNat ≤ 191
    · rw [if_pos hc]
    · rw [if_neg hc]
  · simp only [cont8]
    rw [show ((c :: d :: t).getD 0 0) = c from rfl, show ((c :: d :: t).getD 1 0) = d from rfl]
    by_cases hc : 128 ≤ c.toNat ∧ c.toNat ≤ 191
    · by_cases hd : 128 ≤ d.toNat ∧ d.toNat ≤ 191
      · rw [if_pos hc, if_pos hd, if_pos ⟨⟨by simp, hc⟩, ⟨by simp, hd⟩⟩]
        simp only [badU_iff]
      · rw [if_pos hc, if_neg hd, if_neg (fun x => hd x.2.2)]
    · rw [if_neg hc, if_neg (fun x => hc x.1.2)]
theorem one8_4 (b : UInt8) (l : List UInt8) (h : 240 ≤ b.toNat ∧ b.toNat < 245) : one8 b l = oneN (l.length + 1) b.toNat (l.getD 0 0).toNat (l.getD 1 0).toNat (l.getD 2 0).toNat := by
  have e : lead8 b.toNat = some (3, b.toNat - 240, 65536) := by unfold lead8; rw [if_neg (by omega), if_neg (by omega), if_neg (by omega), if_pos h]
  unfold one8 oneN
  rw [e, if_neg (by omega), if_neg (by omega), if_neg (by omega), if_pos h]
  rcases l with _ | ⟨c, _ | ⟨d, _ | ⟨g, t⟩⟩⟩
  · rw [if_neg (by simp)]
    rfl
  · rw [if_neg (by simp)]
    simp only [cont8]
    by_cases hc : 128 ≤ c.toNat ∧ c.toNat ≤ 191
    · rw [if_pos hc]
    · rw [if_neg hc]
  · rw [if_neg (by simp)]
    simp only [cont8]
    by_cases hc : 128 ≤ c.toNat ∧ c.toNat ≤ 191
    · by_cases hd : 128 ≤ d.toNat ∧ d.toNat ≤ 191
      · rw [if_pos hc, if_pos hd]
      · rw [if_pos hc, if_neg hd]
    · rw [if_neg hc]
  · simp only [cont8]
    rw [show ((c :: d :: g :: t).getD 0 0) = c from rfl, show ((c :: d :: g :: t).getD 1 0) = d from rfl, show ((c :: d :: g :: t).getD 2 0) = g from rfl]
    by_cases hc : 128 ≤ c.toNat ∧ c.toNat ≤ 191
    · by_cases hd : 128 ≤ d.toNat ∧ d.toNat ≤ 191
      · by_cases hg : 128 ≤ g.toNat ∧ g.toNat ≤ 191
        · rw [if_pos hc, if_pos hd, if_pos hg, if_pos ⟨⟨by simp, hc⟩, ⟨by simp, hd⟩, ⟨by simp, hg⟩⟩]
          simp only [badU_iff]
        · rw [if_pos hc, if_pos hd, if_neg hg, if_neg (fun x => hg x.2.2.2)]
      · rw [if_pos hc, if_neg hd, if_neg (fun x => hd x.2.1.2)]
    · rw [if_neg hc, if_neg (fun x => hc x.1.2)]
theorem one8_N (b : UInt8) (l : List UInt8) : one8 b l = oneN (l.length + 1) b.toNat (l.getD 0 0).toNat (l.getD 1 0).toNat (l.getD 2 0).toNat := by
  by_cases h1 : b.toNat < 128
  · have e : lead8 b.toNat = some (0, b.toNat, 0) := by unfold lead8; rw [if_pos h1]
    unfold one8 oneN
    rw [e, if_pos h1]
    simp only [cont8]
    rw [if_neg]
    rw [badU_iff]
    unfold badU
    omega
  · by_cases h2 : 194 ≤ b.toNat ∧ b.toNat < 224
    · exact one8_2 b l h2
    · by_cases h3 : 224 ≤ b.toNat ∧ b.toNat < 240
      · exact one8_3 b l h3
      · by_cases h4 : 240 ≤ b.toNat ∧ b.toNat < 245
        · exact one8_4 b l h4
        · have e : lead8 b.toNat = none := by unfold lead8; rw [if_neg h1, if_neg h2, if_neg h3, if_neg h4]
          unfold one8 oneN
          rw [e, if_neg h1, if_neg h2, if_neg h3, if_neg h4]

set_option maxHeartbeats 2000000 in
theorem oneN_decode (n b0 b1 b2 b3 : Nat) (h0 : b0 < 256) (h1 : b1 < 256) (h2 : b2 < 256) (h3 : b3 < 256) :
    (oneN n b0 b1 b2 b3 = none ∧ Lib.decodeN n b0 b1 b2 b3 = (65533, 1)) ∨ ∃ u k, oneN n b0 b1 b2 b3 = some (u, k) ∧ Lib.decodeN n b0 b1 b2 b3 = (u, k + 1) ∧ (128 ≤ b0 → 1 ≤ k) := by
  by_cases c1 : b0 < 128
  · refine .inr ⟨b0, 0, ?_, ?_, by omega⟩
    · unfold oneN; rw [if_pos c1]
    · unfold Lib.decodeN; rw [if_pos c1]
  · by_cases c2 : 194 ≤ b0 ∧ b0 < 224
    · have e : oneN n b0 b1 b2 b3 = if 1 < n ∧ 128 ≤ b1 ∧ b1 ≤ 191 then some ((b0 - 192) * 64 + b1 - 128, 1) else none := by unfold oneN; rw [if_neg c1, if_pos c2]
      by_cases c : 1 < n ∧ 128 ≤ b1 ∧ b1 ≤ 191
      · refine .inr ⟨_, 1, by rw [e, if_pos c], ?_, by omega⟩
        unfold Lib.decodeN
        rw [if_neg c1, if_pos ⟨by omega, by omega, by omega⟩, if_pos (by omega), show b0 % 32 * 64 + b1 % 64 = (b0 - 192) * 64 + b1 - 128 by omega]
      · refine .inl ⟨by rw [e, if_neg c], ?_⟩
        unfold Lib.decodeN
        rw [if_neg c1, if_neg (by omega), if_neg (by omega), if_neg (by omega)]
    · by_cases c3 : 224 ≤ b0 ∧ b0 < 240
      · have e : oneN n b0 b1 b2 b3 = if (1 < n ∧ 128 ≤ b1 ∧ b1 ≤ 191) ∧ (2 < n ∧ 128 ≤ b2 ∧ b2 ≤ 191) then (if badU (((b0 - 224) * 64 + b1 - 128) * 64 + b2 - 128) 2048 then none else some (((b0 - 224) * 64 + b1 - 128) * 64 + b2 - 128, 2)) else none := by
          unfold oneN; rw [if_neg c1, if_neg c2, if_pos c3]
        by_cases c : (1 < n ∧ 128 ≤ b1 ∧ b1 ≤ 191) ∧ (2 < n ∧ 128 ≤ b2 ∧ b2 ≤ 191)
        · have es : b0 % 16 * 4096 + b1 % 64 * 64 + b2 % 64 = ((b0 - 224) * 64 + b1 - 128) * 64 + b2 - 128 := by omega
          rw [if_pos c] at e
          have hD : Lib.decodeN n b0 b1 b2 b3 = if b0 % 16 * 4096 + b1 % 64 * 64 + b2 % 64 ≥ 2048 ∧ (b0 % 16 * 4096 + b1 % 64 * 64 + b2 % 64 < 55296 ∨ (57344 ≤ b0 % 16 * 4096 + b1 % 64 * 64 + b2 % 64 ∧ b0 % 16 * 4096 + b1 % 64 * 64 + b2 % 64 ≤ 1114111)) then (b0 % 16 * 4096 + b1 % 64 * 64 + b2 % 64, 3) else (65533, 1) := by
            unfold Lib.decodeN
            rw [if_neg c1, if_neg (by omega), if_pos ⟨by omega, by omega, by omega⟩]
          rw [es] at hD
          rw [e, hD]
          generalize ((b0 - 224) * 64 + b1 - 128) * 64 + b2 - 128 = u
          by_cases cb : badU u 2048
          · refine .inl ⟨if_pos cb, ?_⟩
            rw [if_neg (by unfold badU at cb; omega)]
          · refine .inr ⟨u, 2, if_neg cb, ?_, by omega⟩
            rw [if_pos (by unfold badU at cb; omega)]
        · refine .inl ⟨by rw [e, if_neg c], ?_⟩
          unfold Lib.decodeN
          rw [if_neg c1, if_neg (by omega), if_neg (by omega), if_neg (by omega)]
      · by_cases c4 : 240 ≤ b0 ∧ b0 < 245
        · have e : oneN n b0 b1 b2 b3 = if (1 < n ∧ 128 ≤ b1 ∧ b1 ≤ 191) ∧ (2 < n ∧ 128 ≤ b2 ∧ b2 ≤ 191) ∧ (3 < n ∧ 128 ≤ b3 ∧ b3 ≤ 191) then
              (if badU ((((b0 - 240) * 64 + b1 - 128) * 64 + b2 - 128) * 64 + b3 - 128) 65536 then none else some ((((b0 - 240) * 64 + b1 - 128) * 64 + b2 - 128) * 64 + b3 - 128, 3)) else none := by
            unfold oneN; rw [if_neg c1, if_neg c2, if_neg c3, if_pos c4]
          by_cases c : (1 < n ∧ 128 ≤ b1 ∧ b1 ≤ 191) ∧ (2 < n ∧ 128 ≤ b2 ∧ b2 ≤ 191) ∧ (3 < n ∧ 128 ≤ b3 ∧ b3 ≤ 191)
          · have es : b0 % 8 * 262144 + b1 % 64 * 4096 + b2 % 64 * 64 + b3 % 64 = (((b0 - 240) * 64 + b1 - 128) * 64 + b2 - 128) * 64 + b3 - 128 := by omega
            rw [if_pos c] at e
            have hD : Lib.decodeN n b0 b1 b2 b3 = if b0 % 8 * 262144 + b1 % 64 * 4096 + b2 % 64 * 64 + b3 % 64 ≥ 65536 ∧ (b0 % 8 * 262144 + b1 % 64 * 4096 + b2 % 64 * 64 + b3 % 64 < 55296 ∨ (57344 ≤ b0 % 8 * 262144 + b1 % 64 * 4096 + b2 % 64 * 64 + b3 % 64 ∧ b0 % 8 * 262144 + b1 % 64 * 4096 + b2 % 64 * 64 + b3 % 64 ≤ 1114111)) then (b0 % 8 * 262144 + b1 % 64 * 4096 + b2 % 64 * 64 + b3 % 64, 4) else (65533, 1) := by
              unfold Lib.decodeN
              rw [if_neg c1, if_neg (by omega), if_neg (by omega), if_pos ⟨by omega, by omega, by omega, by omega⟩]
            rw [es] at hD
            rw [e, hD]
            generalize (((b0 - 240) * 64 + b1 - 128) * 64 + b2 - 128) * 64 + b3 - 128 = u
            by_cases cb : badU u 65536
            · refine .inl ⟨if_pos cb, ?_⟩
              rw [if_neg (by unfold badU at cb; omega)]
            · refine .inr ⟨u, 3, if_neg cb, ?_, by omega⟩
              rw [if_pos (by unfold badU at cb; omega)]
          · refine .inl ⟨by rw [e, if_neg c], ?_⟩
            unfold Lib.decodeN
            rw [if_neg c1, if_neg (by omega), if_neg (by omega), if_neg (by omega)]
        · have e : oneN n b0 b1 b2 b3 = none := by unfold oneN; rw [if_neg c1, if_neg c2, if_neg c3, if_neg c4]
          exact .inl ⟨e, Lib.decodeN_bad n b0 b1 b2 b3 (by omega)⟩
/-- The library's decoder and 'one8'. -/
theorem dec_one8 (b : UInt8) (l : List UInt8) :
    (one8 b l = none ∧ Lib.decodeL (b :: l) = (65533, 1)) ∨ ∃ u k, one8 b l = some (u, k) ∧ Lib.decodeL (b :: l) = (u, k + 1) ∧ ¬ (u = 65533 ∧ k + 1 = 1) := by
  rw [one8_N, Lib.decodeL_N]
  have e : ∀ i, (b :: l).getD (i + 1) 0 = l.getD i 0 := fun i => rfl
  rw [e 0, e 1, e 2, show (b :: l).getD 0 0 = b from rfl, List.length_cons]
  rcases oneN_decode (l.length + 1) b.toNat (l.getD 0 0).toNat (l.getD 1 0).toNat (l.getD 2 0).toNat b.toNat_lt (UInt8.toNat_lt _) (UInt8.toNat_lt _) (UInt8.toNat_lt _) with h | ⟨u, k, h1, h2, h3⟩
  · exact .inl h
  · refine .inr ⟨u, k, h1, h2, ?_⟩
    rintro ⟨hu, hk⟩
    by_cases hb : 128 ≤ b.toNat
    · have := h3 hb
      omega
    · unfold oneN at h1
      rw [if_pos (by omega)] at h1
      obtain ⟨e1, _⟩ := Prod.mk.inj (Option.some.inj h1)
      omega

theorem validD_pts : ∀ (f : Nat) (l : List UInt8), l.length ≤ f → Lib.validGoD f l = (ptsL l).isSome
  | 0, l, h => by
    have : l = [] := List.eq_nil_of_length_eq_zero (by omega)
    subst this
    rfl
  | f + 1, [], _ => rfl
  | f + 1, b :: l, h => by
    rw [Lib.validGoD, if_neg (by simp), ptsL_cons]
    rcases dec_one8 b l with ⟨h1, h2⟩ | ⟨u, k, h1, h2, h3⟩
    · rw [h1, h2]
      rfl
    · rw [h1, h2]
      simp only []
      rw [if_neg h3, List.drop_succ_cons, validD_pts f (l.drop k) (by simp at h ⊢; omega)]
      cases ptsL (l.drop k) <;> rfl
theorem valid_pts (s : ByteArray) : Lib.validD s.data.toList = (ptsL (ls s)).isSome := validD_pts _ _ (Nat.le_refl _)

theorem dec_at (s : ByteArray) (pos : Nat) : Utf8.decode s pos = Lib.decodeL ((ls s).drop pos) := (Lib.decodeL_drop s pos).symm
theorem count_pts (s : ByteArray) : ∀ (f pos : Nat) (P : List Nat), s.size ≤ pos + f → ptsL ((ls s).drop pos) = some P → Lib.runeCountFrom s f pos = P.length
  | f, pos, P, hf, hp => by
    by_cases hlt : pos < s.size
    · obtain ⟨g, rfl⟩ : ∃ g, f = g + 1 := ⟨f - 1, by omega⟩
      have hdr := drop_ls_cons s pos hlt
      rw [hdr, ptsL_cons] at hp
      rw [Lib.runeCountFrom, if_pos hlt, dec_at, hdr]
      rcases dec_one8 s[pos] ((ls s).drop (pos + 1)) with ⟨h1, h2⟩ | ⟨u, k, h1, h2, _⟩
      · rw [h1] at hp
        cases hp
      · rw [h1] at hp
        simp only [Option.map_eq_some_iff] at hp
        obtain ⟨Q, hQ, rfl⟩ := hp
        rw [List.drop_drop] at hQ
        rw [h2]
        simp only []
        rw [count_pts s g (pos + (k + 1)) Q (by omega) (by rw [show pos + (k + 1) = pos + 1 + k by omega]; exact hQ), List.length_cons]
        omega
    · have : (ls s).drop pos = [] := List.drop_eq_nil_of_le (by rw [ls_length]; omega)
      rw [this] at hp
      injection hp with hp
      subst hp
      rw [Lib.runeCountFrom_end s f pos hlt]
      rfl
theorem runeCount_pts {s : ByteArray} {P : List Nat} (h : ptsL (ls s) = some P) : Lib.runeCount s = P.length :=
  count_pts s s.size 0 P (by omega) (by rw [List.drop_zero]; exact h)
/-- The first code point of valid text. -/
theorem decode_pts {s : ByteArray} {p : Nat} {P : List Nat} (h : ptsL (ls s) = some (p :: P)) :
    ∃ k, Utf8.decode s 0 = (p, k) ∧ 1 ≤ k ∧ k ≤ s.size ∧ ptsL ((ls s).drop k) = some P := by
  rw [dec_at, List.drop_zero]
  cases hl : ls s with
  | nil => rw [hl, ptsL_nil] at h; cases h
  | cons b l =>
    rw [hl, ptsL_cons] at h
    rcases dec_one8 b l with ⟨h1, h2⟩ | ⟨u, k, h1, h2, _⟩
    · rw [h1] at h; cases h
    · rw [h1] at h
      simp only [Option.map_eq_some_iff, List.cons.injEq] at h
      obtain ⟨Q, hQ, rfl, rfl⟩ := h
      obtain ⟨_, h4, _⟩ := txt_one8 h1
      refine ⟨k + 1, h2, by omega, ?_, by rw [List.drop_succ_cons]; exact hQ⟩
      rw [← ls_length, hl, List.length_cons]
      omega
/-- The bytes that are laid for a code point. -/
theorem cells_txt {p : Nat} (h : ptN p = true) : Lib.runeCells (p : Int) = (txt8 p).map bv := by
  rw [ptN_iff] at h
  unfold Lib.runeCells txt8
  by_cases c1 : p < 128
  · rw [Lib.encodeRuneZ_one (by omega) (by omega), if_pos c1]
    simp only [List.map_cons, List.map_nil, bv_eq]
    rw [of8 (by omega)]
  · by_cases c2 : p < 2048
    · rw [Lib.encodeRuneZ_two (by omega) (by omega), if_neg c1, if_pos c2]
      simp only [List.map_cons, List.map_nil, bv_eq]
      rw [of8 (by omega), of8 (by omega)]
      rfl
    · by_cases c3 : p < 65536
      · rw [Lib.encodeRuneZ_three (by omega), if_neg c1, if_neg c2, if_pos c3]
        simp only [List.map_cons, List.map_nil, bv_eq]
        rw [of8 (by omega), of8 (by omega), of8 (by omega)]
        rfl
      · rw [Lib.encodeRuneZ_four (by omega) (by omega), if_neg c1, if_neg c2, if_neg c3]
        simp only [List.map_cons, List.map_nil, bv_eq]
        rw [of8 (by omega), of8 (by omega), of8 (by omega), of8 (by omega)]
        rfl
end

end Go.Proofs.YthoolifdmemceaaGreatDoor
