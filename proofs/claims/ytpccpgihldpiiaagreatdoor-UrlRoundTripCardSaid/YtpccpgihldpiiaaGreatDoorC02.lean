/-
Text in UTF-8 in plain words: its code points, and back; small letters. No program.
Labels in plain words: canonical labels, ToASCII, ToUnicode, and their laws. No program.
Plain mathematics of package seconds (layer 4): no program.
Splitting at a byte: no program.
-/
import Derived.Test.YtpccpgihldpiiaaGreatDoorC01
import Derived.Lib.ItoaNum
namespace Go.Proofs.YtpccpgihldpiiaaGreatDoor
section
open Go.RowKit

/-- What a first byte says: how many bytes, the value so far, the least value. -/
def lead8 (b : Nat) : Option (Nat × Nat × Nat) :=
  if b < 128 then some (0, b, 0) else if 194 ≤ b ∧ b < 224 then some (1, b - 192, 128) else if 224 ≤ b ∧ b < 240 then some (2, b - 224, 2048)
  else if 240 ≤ b ∧ b < 245 then some (3, b - 240, 65536) else none
/-- The value behind k further bytes. -/
def cont8 : Nat → Nat → List UInt8 → Option Nat
  | 0, v, _ => some v
  | _ + 1, _, [] => none
  | k + 1, v, c :: l => if 128 ≤ c.toNat ∧ c.toNat ≤ 191 then cont8 k (v * 64 + c.toNat - 128) l else none
/-- The first code point, and how many bytes there are behind its first. -/
def one8 (b : UInt8) (l : List UInt8) : Option (Nat × Nat) := match lead8 b.toNat with
  | none => none
  | some (k, v, least) => match cont8 k v l with
    | none => none
    | some u => if u < least ∨ ptN u = false then none else some (u, k)
def ptsGo : Nat → List UInt8 → Option (List Nat)
  | _, [] => some []
  | 0, _ :: _ => none
  | f + 1, b :: l => match one8 b l with
    | none => none
    | some (u, k) => (ptsGo f (l.drop k)).map (u :: ·)
def ptsL (l : List UInt8) : Option (List Nat) := ptsGo l.length l
/-- A code point in UTF-8. -/
def txt8 (p : Nat) : List UInt8 :=
  if p < 128 then [UInt8.ofNat p] else if p < 2048 then [UInt8.ofNat (192 + p / 64), UInt8.ofNat (128 + p % 64)]
  else if p < 65536 then [UInt8.ofNat (224 + p / 4096), UInt8.ofNat (128 + p / 64 % 64), UInt8.ofNat (128 + p % 64)]
  else [UInt8.ofNat (240 + p / 262144), UInt8.ofNat (128 + p / 4096 % 64), UInt8.ofNat (128 + p / 64 % 64), UInt8.ofNat (128 + p % 64)]
def txtL (P : List Nat) : List UInt8 := P.flatMap txt8

theorem of8 {x : Nat} (h : x < 256) : (UInt8.ofNat x).toNat = x := by
  rw [UInt8.toNat_ofNat']
  omega
theorem cont8_drop : ∀ (k v : Nat) (l : List UInt8) (u : Nat), cont8 k v l = some u → k ≤ l.length
  | 0, _, _, _, _ => Nat.zero_le _
  | k + 1, _, [], _, h => by simp [cont8] at h
  | k + 1, v, c :: l, u, h => by
    rw [cont8] at h
    split at h
    · have := cont8_drop k _ l u h
      simp
      omega
    · cases h
theorem ptsGo_fuel : ∀ (f g : Nat) (l : List UInt8), l.length ≤ f → l.length ≤ g → ptsGo f l = ptsGo g l
  | f, g, [], _, _ => by cases f <;> cases g <;> rfl
  | 0, g, b :: l, h, _ => by simp at h
  | f, 0, b :: l, _, h => by simp at h
  | f + 1, g + 1, b :: l, hf, hg => by
    rw [ptsGo, ptsGo]
    cases one8 b l with
    | none => rfl
    | some x =>
      obtain ⟨u, k⟩ := x
      show (ptsGo f (l.drop k)).map _ = (ptsGo g (l.drop k)).map _
      rw [ptsGo_fuel f g (l.drop k) (by simp at hf ⊢; omega) (by simp at hg ⊢; omega)]
theorem ptsL_cons (b : UInt8) (l : List UInt8) : ptsL (b :: l) = match one8 b l with
    | none => none
    | some (u, k) => (ptsL (l.drop k)).map (u :: ·) := by
  unfold ptsL
  rw [List.length_cons, ptsGo]
  cases one8 b l with
  | none => rfl
  | some x =>
    obtain ⟨u, k⟩ := x
    show (ptsGo l.length (l.drop k)).map _ = (ptsGo (l.drop k).length (l.drop k)).map _
    rw [ptsGo_fuel l.length (l.drop k).length (l.drop k) (by simp) (Nat.le_refl _)]
theorem ptsL_nil : ptsL [] = some [] := rfl

/-- A code point's bytes are read as this code point. -/
theorem one8_txt {p : Nat} (hp : ptN p = true) (r : List UInt8) : ∃ b x, txt8 p = b :: x ∧ one8 b (x ++ r) = some (p, x.length) := by
  have hle := ptN_le hp
  unfold txt8
  by_cases h1 : p < 128
  · rw [if_pos h1]
    refine ⟨_, _, rfl, ?_⟩
    unfold one8 lead8
    rw [of8 (by omega), if_pos h1]
    simp [cont8, hp]
  · rw [if_neg h1]
    by_cases h2 : p < 2048
    · rw [if_pos h2]
      refine ⟨_, _, rfl, ?_⟩
      unfold one8 lead8
      rw [of8 (by omega), if_neg (by omega), if_pos (by omega)]
      simp only [List.cons_append, List.nil_append, cont8]
      rw [of8 (by omega), if_pos (by omega)]
      have e : (192 + p / 64 - 192) * 64 + (128 + p % 64) - 128 = p := by omega
      rw [e]
      simp only []
      rw [if_neg (by rw [hp]; simp; omega)]
      rfl
    · rw [if_neg h2]
      by_cases h3 : p < 65536
      · rw [if_pos h3]
        refine ⟨_, _, rfl, ?_⟩
        unfold one8 lead8
        rw [of8 (by omega), if_neg (by omega), if_neg (by omega), if_pos (by omega)]
        simp only [List.cons_append, List.nil_append, cont8]
        rw [of8 (by omega), of8 (by omega), if_pos (by omega), if_pos (by omega)]
        have e : ((224 + p / 4096 - 224) * 64 + (128 + p / 64 % 64) - 128) * 64 + (128 + p % 64) - 128 = p := by omega
        rw [e]
        simp only []
        rw [if_neg (by rw [hp]; simp; omega)]
        rfl
      · rw [if_neg h3]
        refine ⟨_, _, rfl, ?_⟩
        unfold one8 lead8
        rw [of8 (by omega), if_neg (by omega), if_neg (by omega), if_neg (by omega), if_pos (by omega)]
        simp only [List.cons_append, List.nil_append, cont8]
        rw [of8 (by omega), of8 (by omega), of8 (by omega), if_pos (by omega), if_pos (by omega), if_pos (by omega)]
        have e : (((240 + p / 262144 - 240) * 64 + (128 + p / 4096 % 64) - 128) * 64 + (128 + p / 64 % 64) - 128) * 64 + (128 + p % 64) - 128 = p := by omega
        rw [e]
        simp only []
        rw [if_neg (by rw [hp]; simp; omega)]
        rfl
theorem pts_txt : ∀ (P : List Nat), (∀ p ∈ P, ptN p = true) → ptsL (txtL P) = some P
  | [], _ => rfl
  | p :: P, h => by
    obtain ⟨b, x, e, ho⟩ := one8_txt (h p (by simp)) (txtL P)
    have ih := pts_txt P (fun q hq => h q (by simp [hq]))
    show ptsL (txt8 p ++ txtL P) = _
    rw [e, List.cons_append, ptsL_cons, ho]
    show (ptsL ((x ++ txtL P).drop x.length)).map _ = _
    rw [List.drop_left, ih]
    rfl
theorem cont8_take : ∀ (k v : Nat) (l : List UInt8) (u : Nat), cont8 k v l = some u → ∃ x, x.length = k ∧ l = x ++ l.drop k ∧ (∀ c ∈ x, 128 ≤ c.toNat ∧ c.toNat ≤ 191) ∧ u = x.foldl (fun a c => a * 64 + c.toNat - 128) v
  | 0, v, l, u, h => ⟨[], rfl, rfl, (fun c hc => by simp at hc), by injection h with h; exact h.symm⟩
  | k + 1, _, [], _, h => by simp [cont8] at h
  | k + 1, v, c :: l, u, h => by
    rw [cont8] at h
    split at h
    · rename_i hc
      obtain ⟨x, h1, h2, h3, h4⟩ := cont8_take k _ l u h
      have h5 : c :: l = c :: (x ++ l.drop k) := congrArg (List.cons c) h2
      refine ⟨c :: x, by simp [h1], h5, ?_, by rw [List.foldl_cons]; exact h4⟩
      intro d hd
      rcases List.mem_cons.1 hd with rfl | hd
      · exact hc
      · exact h3 d hd
    · cases h
theorem u8_eq {c : UInt8} {n : Nat} (h : c.toNat = n) : UInt8.ofNat n = c := by
  rw [← h]
  exact UInt8.ofNat_toNat
theorem list1 {x : List UInt8} (h : x.length = 1) : ∃ c, x = [c] := by
  match x, h with
  | [c], _ => exact ⟨c, rfl⟩
theorem list2 {x : List UInt8} (h : x.length = 2) : ∃ c d, x = [c, d] := by
  match x, h with
  | [c, d], _ => exact ⟨c, d, rfl⟩
theorem list3 {x : List UInt8} (h : x.length = 3) : ∃ c d e, x = [c, d, e] := by
  match x, h with
  | [c, d, e], _ => exact ⟨c, d, e, rfl⟩
/-- What is read as a code point are this code point's bytes. -/
theorem txt_one8 {b : UInt8} {l : List UInt8} {u k : Nat} (h : one8 b l = some (u, k)) : ptN u = true ∧ k ≤ l.length ∧ txt8 u ++ l.drop k = b :: l := by
  unfold one8 at h
  cases hL : lead8 b.toNat with
  | none => rw [hL] at h; cases h
  | some q =>
    obtain ⟨k', v, least⟩ := q
    rw [hL] at h
    simp only [] at h
    cases hC : cont8 k' v l with
    | none => rw [hC] at h; cases h
    | some u' =>
      rw [hC] at h
      simp only [] at h
      split at h
      · cases h
      · rename_i hno
        injection h with h
        injection h with e1 e2
        subst e1 e2
        have hpt : ptN u' = true := by cases hh : ptN u' with
          | true => rfl
          | false => exact absurd (.inr hh) hno
        have hls : least ≤ u' := by
          by_cases hlt : u' < least
          · exact absurd (.inl hlt) hno
          · omega
        refine ⟨hpt, cont8_drop _ _ _ _ hC, ?_⟩
        obtain ⟨x, hx, hl, hr, hu⟩ := cont8_take _ _ _ _ hC
        have hb := b.toNat_lt
        suffices hs : txt8 u' = b :: x by rw [hs, List.cons_append, ← hl]
        clear hC hno hl
        unfold lead8 at hL
        split at hL
        · rename_i h1
          obtain ⟨e1, e23⟩ := Prod.mk.inj (Option.some.inj hL)
          obtain ⟨e2, e3⟩ := Prod.mk.inj e23
          subst e1 e2 e3
          obtain rfl : x = [] := List.eq_nil_of_length_eq_zero hx
          have hu' : u' = b.toNat := hu
          unfold txt8
          rw [if_pos (by omega), hu', UInt8.ofNat_toNat]
        · rename_i h1
          split at hL
          · rename_i h2
            obtain ⟨e1, e23⟩ := Prod.mk.inj (Option.some.inj hL)
            obtain ⟨e2, e3⟩ := Prod.mk.inj e23
            subst e1 e2 e3
            obtain ⟨c, rfl⟩ := list1 hx
            have r1 := hr c (by simp)
            have hu' : u' = (b.toNat - 192) * 64 + c.toNat - 128 := hu
            unfold txt8
            rw [if_neg (by omega), if_pos (by omega), u8_eq (c := b) (by omega), u8_eq (c := c) (by omega)]
          · rename_i h2
            split at hL
            · rename_i h3
              obtain ⟨e1, e23⟩ := Prod.mk.inj (Option.some.inj hL)
              obtain ⟨e2, e3⟩ := Prod.mk.inj e23
              subst e1 e2 e3
              obtain ⟨c, d, rfl⟩ := list2 hx
              have r1 := hr c (by simp)
              have r2 := hr d (by simp)
              have hu' : u' = ((b.toNat - 224) * 64 + c.toNat - 128) * 64 + d.toNat - 128 := hu
              unfold txt8
              rw [if_neg (by omega), if_neg (by omega), if_pos (by omega), u8_eq (c := b) (by omega), u8_eq (c := c) (by omega), u8_eq (c := d) (by omega)]
            · rename_i h3
              split at hL
              · rename_i h4
                obtain ⟨e1, e23⟩ := Prod.mk.inj (Option.some.inj hL)
                obtain ⟨e2, e3⟩ := Prod.mk.inj e23
                subst e1 e2 e3
                obtain ⟨c, d, f, rfl⟩ := list3 hx
                have r1 := hr c (by simp)
                have r2 := hr d (by simp)
                have r3 := hr f (by simp)
                have hu' : u' = (((b.toNat - 240) * 64 + c.toNat - 128) * 64 + d.toNat - 128) * 64 + f.toNat - 128 := hu
                have hle := ptN_le hpt
                unfold txt8
                rw [if_neg (by omega), if_neg (by omega), if_neg (by omega), u8_eq (c := b) (by omega), u8_eq (c := c) (by omega), u8_eq (c := d) (by omega), u8_eq (c := f) (by omega)]
              · cases hL
theorem txt_ptsGo : ∀ (f : Nat) (l : List UInt8) (P : List Nat), ptsGo f l = some P → (∀ p ∈ P, ptN p = true) ∧ txtL P = l
  | f, [], P, h => by
    have : P = [] := by cases f <;> (injection h with h; exact h.symm)
    subst this
    exact ⟨fun p hp => by simp at hp, rfl⟩
  | 0, b :: l, P, h => by simp [ptsGo] at h
  | f + 1, b :: l, P, h => by
    rw [ptsGo] at h
    cases ho : one8 b l with
    | none => rw [ho] at h; cases h
    | some x =>
      obtain ⟨u, k⟩ := x
      rw [ho] at h
      simp only [] at h
      cases hg : ptsGo f (l.drop k) with
      | none => rw [hg] at h; cases h
      | some Q =>
        rw [hg] at h
        injection h with h
        subst h
        obtain ⟨i1, i2⟩ := txt_ptsGo f _ Q hg
        obtain ⟨o1, _, o3⟩ := txt_one8 ho
        refine ⟨?_, ?_⟩
        · intro p hp
          rcases List.mem_cons.1 hp with rfl | hp
          · exact o1
          · exact i1 p hp
        · show txt8 u ++ txtL Q = _
          rw [i2, o3]
theorem txt_pts {l : List UInt8} {P : List Nat} (h : ptsL l = some P) : (∀ p ∈ P, ptN p = true) ∧ txtL P = l := txt_ptsGo _ l P h

theorem txt8_len (p : Nat) : 1 ≤ (txt8 p).length ∧ (128 ≤ p → 2 ≤ (txt8 p).length) ∧ (p < 128 → (txt8 p).length = 1) ∧ (txt8 p).length ≤ 4 := by
  unfold txt8
  split
  · exact ⟨Nat.le_refl _, fun _ => by omega, fun _ => rfl, by simp⟩
  · split
    · exact ⟨by simp, fun _ => by simp, fun _ => by omega, by simp⟩
    · split
      · exact ⟨by simp, fun _ => by simp, fun _ => by omega, by simp⟩
      · exact ⟨by simp, fun _ => by simp, fun _ => by omega, by simp⟩
theorem txtL_len : ∀ (P : List Nat), P.length ≤ (txtL P).length ∧ ((∃ p ∈ P, 128 ≤ p) → P.length < (txtL P).length) ∧ ((∀ p ∈ P, p < 128) → P.length = (txtL P).length)
  | [] => ⟨Nat.le_refl _, (fun ⟨p, hp, _⟩ => by simp at hp), fun _ => rfl⟩
  | p :: P => by
    obtain ⟨i1, i2, i3⟩ := txtL_len P
    obtain ⟨a1, a2, a3, _⟩ := txt8_len p
    have e : (txtL (p :: P)).length = (txt8 p).length + (txtL P).length := by
      show (txt8 p ++ txtL P).length = _
      rw [List.length_append]
    rw [e, List.length_cons]
    refine ⟨by omega, ?_, ?_⟩
    · rintro ⟨q, hq, h⟩
      rcases List.mem_cons.1 hq with rfl | hq
      · have := a2 h; omega
      · have := i2 ⟨q, hq, h⟩; omega
    · intro h
      have h1 := a3 (h p (by simp))
      have h2 := i3 (fun q hq => h q (by simp [hq]))
      omega
theorem txtL_ascii : ∀ (l : List UInt8), (∀ b ∈ l, b.toNat < 128) → txtL (l.map UInt8.toNat) = l
  | [], _ => rfl
  | b :: l, h => by
    show txt8 b.toNat ++ txtL (l.map UInt8.toNat) = _
    rw [txtL_ascii l (fun c hc => h c (by simp [hc]))]
    unfold txt8
    rw [if_pos (h b (by simp)), UInt8.ofNat_toNat]
    rfl
theorem ptN_ascii {n : Nat} (h : n < 128) : ptN n = true := by
  unfold ptN
  simp
  omega
theorem pts_ascii {l : List UInt8} (h : ∀ b ∈ l, b.toNat < 128) : ptsL l = some (l.map UInt8.toNat) := by
  have h2 := pts_txt (l.map UInt8.toNat) (fun p hp => by obtain ⟨b, hb, rfl⟩ := List.mem_map.1 hp; exact ptN_ascii (h b hb))
  rw [txtL_ascii l h] at h2
  exact h2

/-- Small letters, of code points. -/
def lowP (p : Nat) : Nat := if 65 ≤ p ∧ p ≤ 90 then p + 32 else p
theorem lowU_small {b : UInt8} (h : b.toNat < 65 ∨ 90 < b.toNat) : lowU b = b := by
  refine UInt8.toNat_inj.1 ?_
  have := lowU_toNat b
  unfold lowI upperB at this
  have hb : (decide (65 ≤ (b.toNat : Int)) && decide ((b.toNat : Int) ≤ 90)) = false := by simp; omega
  rw [hb] at this
  simp at this
  omega
theorem lowU_big {b : UInt8} (h : 65 ≤ b.toNat ∧ b.toNat ≤ 90) : (lowU b).toNat = b.toNat + 32 := by
  have := lowU_toNat b
  unfold lowI upperB at this
  have hb : (decide (65 ≤ (b.toNat : Int)) && decide ((b.toNat : Int) ≤ 90)) = true := by simp; omega
  rw [hb] at this
  simp at this
  omega
theorem lowU_nat (b : UInt8) : (lowU b).toNat = lowP b.toNat := by
  unfold lowP
  split
  · rename_i h; exact lowU_big h
  · rename_i h; rw [lowU_small (by omega)]
theorem cont8_low : ∀ (k v : Nat) (l : List UInt8), cont8 k v (lowL l) = cont8 k v l
  | 0, _, _ => rfl
  | _ + 1, _, [] => rfl
  | k + 1, v, c :: l => by
    show (if 128 ≤ (lowU c).toNat ∧ (lowU c).toNat ≤ 191 then cont8 k (v * 64 + (lowU c).toNat - 128) (lowL l) else none) = _
    rw [cont8_low, cont8]
    by_cases h : 65 ≤ c.toNat ∧ c.toNat ≤ 90
    · have := lowU_big h
      rw [if_neg (by omega), if_neg (by omega)]
    · rw [lowU_small (by omega)]
theorem lowP_pt {p : Nat} (h : ptN p = true) : ptN (lowP p) = true := by
  unfold lowP
  split
  · exact ptN_ascii (by omega)
  · exact h
theorem one8_low (b : UInt8) (l : List UInt8) : one8 (lowU b) (lowL l) = (one8 b l).map fun x => (lowP x.1, x.2) := by
  unfold one8
  by_cases h : 65 ≤ b.toNat ∧ b.toNat ≤ 90
  · have hb := lowU_big h
    have l1 : lead8 (lowU b).toNat = some (0, b.toNat + 32, 0) := by unfold lead8; rw [hb, if_pos (by omega)]
    have l2 : lead8 b.toNat = some (0, b.toNat, 0) := by unfold lead8; rw [if_pos (by omega)]
    rw [l1, l2]
    simp only [cont8]
    rw [if_neg (by rw [ptN_ascii (by omega)]; simp), if_neg (by rw [ptN_ascii (by omega)]; simp)]
    show some (b.toNat + 32, 0) = some (lowP b.toNat, 0)
    unfold lowP
    rw [if_pos h]
  · rw [lowU_small (by omega)]
    cases hL : lead8 b.toNat with
    | none => rfl
    | some q =>
      obtain ⟨k, v, least⟩ := q
      simp only [cont8_low]
      cases hC : cont8 k v l with
      | none => rfl
      | some u =>
        simp only []
        split
        · rfl
        · rename_i hno
          show some (u, k) = some (lowP u, k)
          have hu : lowP u = u := by
            unfold lowP
            rw [if_neg]
            intro hc
            unfold lead8 at hL
            split at hL
            · obtain ⟨e1, e23⟩ := Prod.mk.inj (Option.some.inj hL)
              obtain ⟨e2, e3⟩ := Prod.mk.inj e23
              subst e1 e2 e3
              injection hC with hC
              omega
            · have : 128 ≤ least := by
                split at hL
                · have e3 := (Prod.mk.inj (Prod.mk.inj (Option.some.inj hL)).2).2; omega
                · split at hL
                  · have e3 := (Prod.mk.inj (Prod.mk.inj (Option.some.inj hL)).2).2; omega
                  · split at hL
                    · have e3 := (Prod.mk.inj (Prod.mk.inj (Option.some.inj hL)).2).2; omega
                    · cases hL
              exact hno (.inl (by omega))
          rw [hu]
theorem ptsGo_low : ∀ (f : Nat) (l : List UInt8), ptsGo f (lowL l) = (ptsGo f l).map (List.map lowP)
  | f, [] => by cases f <;> rfl
  | 0, b :: l => rfl
  | f + 1, b :: l => by
    show (match one8 (lowU b) (lowL l) with
      | none => none
      | some (u, k) => (ptsGo f ((lowL l).drop k)).map (u :: ·)) = _
    rw [one8_low, ptsGo]
    cases one8 b l with
    | none => rfl
    | some x =>
      obtain ⟨u, k⟩ := x
      show (ptsGo f ((lowL l).drop k)).map (lowP u :: ·) = ((ptsGo f (l.drop k)).map (u :: ·)).map (List.map lowP)
      have e : (lowL l).drop k = lowL (l.drop k) := by unfold lowL; rw [List.map_drop]
      rw [e, ptsGo_low f (l.drop k)]
      cases ptsGo f (l.drop k) with
      | none => rfl
      | some Q => rfl
theorem pts_low (l : List UInt8) : ptsL (lowL l) = (ptsL l).map (List.map lowP) := by
  unfold ptsL
  rw [lowL_length]
  exact ptsGo_low _ l
theorem lowP_lowP (p : Nat) : lowP (lowP p) = lowP p := by
  unfold lowP
  split
  · rw [if_neg (by omega)]
  · rfl
theorem lowP_map (P : List Nat) : (P.map lowP).map lowP = P.map lowP := by
  rw [List.map_map]
  exact List.map_congr_left fun p _ => lowP_lowP p
end

section
open Go.RowKit

/-- The four bytes of 'xn--'. -/
def xnL : List UInt8 := [120, 110, 45, 45]
def okN (n : Nat) : Bool := (decide (97 ≤ n) && decide (n ≤ 122)) || (decide (48 ≤ n) && decide (n ≤ 57)) || n == 45 || n == 95
def bigP (p : Nat) : Bool := decide (65 ≤ p) && decide (p ≤ 90)
/-- Whether the rest behind 'xn--' is proper. -/
def propL (r : List UInt8) : Bool := match decL r with
  | .error _ => false
  | .ok p => p.any (fun x => decide (128 ≤ x)) && p.all (fun x => !bigP x) && decide (encB p = r)
def endsL (l : List UInt8) : Bool := decide (l ≠ []) && decide (l.length ≤ 63) && decide (l.head? ≠ some 45) && decide (l.getLast? ≠ some 45)
def labL (l : List UInt8) : Bool := endsL l && l.all (fun b => okN b.toNat) && (decide (l.take 4 ≠ xnL) || propL (l.drop 4))
def toAOut (l : List UInt8) (P : List Nat) : List UInt8 := if P.length < l.length then xnL ++ encB (P.map lowP) else lowL l
def toA (l : List UInt8) : Nat × List UInt8 := match ptsL l with
  | none => (4, [])
  | some P => if 256 < P.length then (3, []) else if labL (toAOut l P) = true then (0, toAOut l P) else (14, [])
def toUOut (l : List UInt8) : List UInt8 := if l.take 4 = xnL then txtL (puV' (l.drop 4)) else l
where puV' (r : List UInt8) : List Nat := match decL r with
  | .ok p => p
  | .error _ => []
def toU (l : List UInt8) : Nat × List UInt8 := if labL l = true then (0, toUOut l) else (14, [])

theorem okN_ascii {n : Nat} (h : okN n = true) : n < 128 ∧ ¬ (65 ≤ n ∧ n ≤ 90) := by
  unfold okN at h
  simp only [Bool.or_eq_true, Bool.and_eq_true, decide_eq_true_eq, beq_iff_eq] at h
  omega
theorem lab_all {l : List UInt8} (h : labL l = true) : (∀ b ∈ l, b.toNat < 128) ∧ lowL l = l ∧ l.length ≤ 63 := by
  unfold labL at h
  simp only [Bool.and_eq_true] at h
  have ha : ∀ b ∈ l, okN b.toNat = true := fun b hb => List.all_eq_true.1 h.1.2 b hb
  refine ⟨fun b hb => (okN_ascii (ha b hb)).1, ?_, ?_⟩
  · unfold lowL
    have : l.map lowU = l.map id := List.map_congr_left fun b hb => lowU_small (by have := (okN_ascii (ha b hb)).2; omega)
    rw [this, List.map_id]
  · have := h.1.1
    unfold endsL at this
    simp only [Bool.and_eq_true, decide_eq_true_eq] at this
    omega
theorem lab_prop {l : List UInt8} (h : labL l = true) (hx : l.take 4 = xnL) : propL (l.drop 4) = true := by
  unfold labL at h
  simp only [Bool.and_eq_true, Bool.or_eq_true, decide_eq_true_eq] at h
  rcases h.2 with h | h
  · exact absurd hx h
  · exact h
theorem prop_of {r : List UInt8} (h : propL r = true) : ∃ p, decL r = .ok p ∧ (∀ x ∈ p, ptN x = true) ∧ p.length ≤ 256 ∧ (∃ x ∈ p, 128 ≤ x) ∧ p.map lowP = p ∧ encB p = r := by
  unfold propL at h
  cases hd : decL r with
  | error e => rw [hd] at h; cases h
  | ok p =>
    rw [hd] at h
    simp only [Bool.and_eq_true, decide_eq_true_eq] at h
    obtain ⟨⟨h1, h2⟩, h3⟩ := h
    obtain ⟨e1, e2, _, _⟩ := enc_dec hd
    refine ⟨p, rfl, e1, e2, ?_, ?_, h3⟩
    · obtain ⟨x, hx, hy⟩ := List.any_eq_true.1 h1
      exact ⟨x, hx, of_decide_eq_true hy⟩
    · have : p.map lowP = p.map id := List.map_congr_left fun x hx => by
        have := List.all_eq_true.1 h2 x hx
        unfold bigP at this
        unfold lowP
        rw [if_neg]
        · rfl
        · rintro ⟨a, b⟩
          rw [decide_eq_true a, decide_eq_true b] at this
          cases this
      rw [this, List.map_id]
theorem toA_lab {a : List UInt8} (h : labL a = true) : toA a = (0, a) := by
  obtain ⟨h1, h2, h3⟩ := lab_all h
  unfold toA
  rw [pts_ascii h1]
  have e : toAOut a (a.map UInt8.toNat) = a := by unfold toAOut; rw [if_neg (by rw [List.length_map]; omega), h2]
  simp only [e]
  rw [if_neg (by rw [List.length_map]; omega), if_pos h]
/-- ToASCII restores a canonical label from its Unicode form. -/
theorem toA_toU {l : List UInt8} (h : labL l = true) : toA (toU l).2 = (0, l) := by
  have e : (toU l).2 = toUOut l := by unfold toU; rw [if_pos h]
  rw [e]
  by_cases hx : l.take 4 = xnL
  · obtain ⟨p, hd, hp, hl, hn, hlow, henc⟩ := prop_of (lab_prop h hx)
    have e2 : toUOut l = txtL p := by unfold toUOut toUOut.puV'; rw [if_pos hx, hd]
    have e3 : toAOut (txtL p) p = l := by
      unfold toAOut
      rw [if_pos ((txtL_len p).2.1 hn), hlow, henc, ← hx, List.take_append_drop]
    rw [e2]
    unfold toA
    rw [pts_txt p hp]
    simp only [e3]
    rw [if_neg (by omega), if_pos h]
  · have e2 : toUOut l = l := by unfold toUOut; rw [if_neg hx]
    rw [e2]
    exact toA_lab h
theorem toA_low (l : List UInt8) : toA (lowL l) = toA l := by
  unfold toA
  rw [pts_low]
  cases ptsL l with
  | none => rfl
  | some P =>
    have e : toAOut (lowL l) (P.map lowP) = toAOut l P := by
      unfold toAOut
      rw [List.length_map, lowL_length, lowP_map, lowL_lowL]
    simp only [Option.map_some, e, List.length_map]
theorem toA_cases (l : List UInt8) : (toA l).1 = 0 ∧ labL (toA l).2 = true ∨ (toA l).1 ≠ 0 ∧ (toA l).2 = [] := by
  unfold toA
  cases ptsL l with
  | none => exact .inr ⟨(fun e => by cases e), rfl⟩
  | some P =>
    simp only []
    split
    · exact .inr ⟨by decide, rfl⟩
    · split
      · rename_i h; exact .inl ⟨rfl, h⟩
      · exact .inr ⟨by decide, rfl⟩
theorem toU_inj {a b : List UInt8} (ha : labL a = true) (hb : labL b = true) (h : (toU a).2 = (toU b).2) : a = b := by
  have h1 := toA_toU ha
  rw [h, toA_toU hb] at h1
  exact (Prod.mk.inj h1).2.symm
theorem toU_cases (l : List UInt8) : labL l = true ∧ (toU l).1 = 0 ∨ labL l = false ∧ toU l = (14, []) := by
  unfold toU
  by_cases h : labL l = true
  · rw [if_pos h]; exact .inl ⟨h, rfl⟩
  · rw [if_neg h]; exact .inr ⟨by simpa using h, rfl⟩
theorem toU_len {l : List UInt8} : (toU l).2.length ≤ 1024 := by
  unfold toU
  split
  · rename_i h
    obtain ⟨_, _, h3⟩ := lab_all h
    unfold toUOut
    split
    · rename_i hx
      obtain ⟨p, hd, hp, hl, _⟩ := prop_of (lab_prop h hx)
      unfold toUOut.puV'
      rw [hd]
      have : ∀ (P : List Nat), (txtL P).length ≤ 4 * P.length := by
        intro P
        induction P with
        | nil => exact Nat.le_refl _
        | cons q P ih =>
          have e : (txtL (q :: P)).length = (txt8 q).length + (txtL P).length := by
            show (txt8 q ++ txtL P).length = _
            rw [List.length_append]
          have := (txt8_len q).2.2.2
          rw [e, List.length_cons]
          omega
      have := this p
      show (txtL p).length ≤ 1024
      omega
    · show l.length ≤ 1024
      omega
  · exact Nat.zero_le _
end

section
open Go.RowKit

/-- The number of the range 0 to g that is nearest to n. -/
def lim (n g : Int) : Int := max 0 (min n g)
theorem lim_range (n g : Int) (h : 0 ≤ g) : 0 ≤ lim n g ∧ lim n g ≤ g := by unfold lim; omega
theorem lim_code (n g : Int) (h : 0 ≤ g) : min (max n 0) g = lim n g := by unfold lim; omega
def expV (now age : Int) : Int := min (lim now 1099511627776 + lim age 2147483647) 1099511627776

/-- What one more digit does to a number that is limited. -/
def perStep (a : Int) (c : UInt8) : Int := min (10 * a + ((c.toNat : Int) - 48)) 2147483647
def perL (a : Int) (l : List UInt8) : Int := l.foldl perStep a
def perV (s : ByteArray) : Int := if digitsB s then perL 0 (ls s) else 0
theorem perL_append (a : Int) (l m : List UInt8) : perL a (l ++ m) = perL (perL a l) m := by simp [perL]
theorem perL_one (a : Int) (c : UInt8) : perL a [c] = perStep a c := rfl
theorem perL_take_succ (s : ByteArray) (k : Nat) (h : k < s.size) : perL 0 ((ls s).take (k + 1)) = perStep (perL 0 ((ls s).take k)) s[k] := by
  rw [take_ls_succ s k h, perL_append, perL_one]
theorem digitU_iff (c : UInt8) : digitU c = true ↔ 48 ≤ (c.toNat : Int) ∧ (c.toNat : Int) ≤ 57 := by simp [digitU, digitB]
theorem perStep_range (a : Int) (c : UInt8) (h : 0 ≤ a) (hc : digitU c = true) : 0 ≤ perStep a c ∧ perStep a c ≤ 2147483647 := by
  have := (digitU_iff c).1 hc
  unfold perStep
  omega
theorem perStep_ge (a : Int) (c : UInt8) (h0 : 0 ≤ a) (h1 : a ≤ 2147483647) (hc : digitU c = true) : a ≤ perStep a c := by
  have := (digitU_iff c).1 hc
  unfold perStep
  omega
theorem perL_range (l : List UInt8) : ∀ a : Int, 0 ≤ a → a ≤ 2147483647 → l.all digitU = true → 0 ≤ perL a l ∧ perL a l ≤ 2147483647 ∧ a ≤ perL a l := by
  induction l with
  | nil => intro a h0 h1 _; exact ⟨h0, h1, Int.le_refl _⟩
  | cons c l ih =>
    intro a h0 h1 h
    simp only [List.all_cons, Bool.and_eq_true] at h
    have hr := perStep_range a c h0 h.1
    have hg := perStep_ge a c h0 h1 h.1
    have := ih (perStep a c) hr.1 hr.2 h.2
    exact ⟨this.1, this.2.1, Int.le_trans hg this.2.2⟩

theorem digitsB_all {s : ByteArray} (h : digitsB s = true) : (ls s).all digitU = true := by
  unfold digitsB at h
  simp only [Bool.and_eq_true] at h
  exact h.1
theorem perV_range (s : ByteArray) : 0 ≤ perV s ∧ perV s ≤ 2147483647 := by
  unfold perV
  split
  · rename_i h
    have := perL_range (ls s) 0 (by omega) (by omega) (digitsB_all h)
    exact ⟨this.1, this.2.1⟩
  · omega
theorem perV_no (s : ByteArray) (h : digitsB s = false) : perV s = 0 := by unfold perV; rw [h]; rfl
theorem perV_yes (s : ByteArray) (h : ((ls s).take s.size).all digitU = true) : perV s = perL 0 ((ls s).take s.size) := by
  unfold perV
  rw [digits_yes s h]
  rw [take_ls_all]
  cases hl : ls s with
  | nil => rfl
  | cons c l => rfl
theorem isEmpty_ls (s : ByteArray) : (ls s).isEmpty = decide (s.size = 0) := by
  rw [← ls_length]
  cases ls s <;> simp

/-- The decimal digits. -/
theorem dec_step (u : Nat) (h : ¬ u < 10) : Lib.decDigits u = Lib.decDigits (u / 10) ++ [UInt8.ofNat (48 + u % 10)] := by
  rw [Lib.decDigits, dif_neg h]
theorem digit_of (d : Nat) (h : d < 10) : ((UInt8.ofNat (48 + d)).toNat : Int) = 48 + d := by
  rw [UInt8.toNat_ofNat']; omega
theorem digit_is (d : Nat) (h : d < 10) : digitU (UInt8.ofNat (48 + d)) = true := by
  rw [digitU_iff, digit_of d h]; omega
theorem dec_digits (u : Nat) : (Lib.decDigits u).all digitU = true := by
  induction u using Nat.strongRecOn with
  | ind u ih =>
    by_cases h : u < 10
    · rw [Lib.decDigits_one h]
      rw [List.all_cons, digit_is u h]; rfl
    · rw [dec_step u h, List.all_append, ih (u / 10) (by omega)]
      rw [List.all_cons, digit_is (u % 10) (by omega)]; rfl
theorem dec_ne (u : Nat) : Lib.decDigits u ≠ [] := by
  intro h
  have := Lib.decDigits_length u
  have h2 := Lib.nDigits_pos u
  rw [h] at this
  simp at this
  omega
theorem dec_value (u : Nat) (h : u ≤ 2147483647) : perL 0 (Lib.decDigits u) = (u : Int) := by
  induction u using Nat.strongRecOn with
  | ind u ih =>
    by_cases hu : u < 10
    · rw [Lib.decDigits_one hu, perL_one]
      unfold perStep
      rw [digit_of u hu]
      omega
    · rw [dec_step u hu, perL_append, ih (u / 10) (by omega) (by omega), perL_one]
      unfold perStep
      rw [digit_of _ (by omega)]
      omega
/-- What Format writes for a period. -/
def fmtS (n : Int) : ByteArray := bs (Lib.decDigits (lim n 2147483647).toNat)
theorem fmtS_digits (n : Int) : digitsB (fmtS n) = true := by
  unfold digitsB fmtS
  rw [ls_bs, dec_digits]
  cases h : Lib.decDigits (lim n 2147483647).toNat with
  | nil => exact absurd h (dec_ne _)
  | cons c l => rfl
theorem fmtS_value (n : Int) : perV (fmtS n) = lim n 2147483647 := by
  have hl := lim_range n 2147483647 (by omega)
  unfold perV
  rw [fmtS_digits]
  unfold fmtS
  rw [ls_bs, dec_value _ (by omega), if_pos rfl]
  omega
theorem dec_size (u : Nat) (h : u ≤ 2147483647) : (bs (Lib.decDigits u)).size ≤ 10 := by
  rw [bs_size, Lib.decDigits_length]
  rcases Nat.lt_or_ge (Lib.nDigits u) 11 with h' | h'
  · omega
  · exfalso
    have key : ∀ (k v : Nat), k + 1 ≤ Lib.nDigits v → 10 ^ k ≤ v ∨ k = 0 := by
      intro k
      induction k with
      | zero => intro v _; exact .inr rfl
      | succ k ih =>
        intro v hv
        left
        by_cases hs : v < 10
        · rw [Lib.nDigits_small hs] at hv; omega
        · rw [Lib.nDigits_big hs] at hv
          rcases ih (v / 10) (by omega) with h1 | h1
          · rw [Nat.pow_succ]; omega
          · subst h1; simp; omega
    rcases key 10 u (by omega) with h1 | h1
    · simp at h1; omega
    · omega
theorem fmtS_size (n : Int) : (fmtS n).size ≤ 10 := by
  have hl := lim_range n 2147483647 (by omega)
  exact dec_size _ (by omega)
/-- Digits behind zeros, digits in front of digits. -/
theorem perL_zeros (l : List UInt8) : perL 0 (48 :: 48 :: 48 :: l) = perL 0 l := rfl
theorem digitsB_front (p s : ByteArray) (hp : (ls p).all digitU = true) (hs : digitsB s = true) : digitsB (p ++ s) = true := by
  unfold digitsB at hs ⊢
  rw [ls_append, List.all_append, hp]
  simp only [Bool.and_eq_true, Bool.not_eq_true', Bool.true_and] at hs ⊢
  refine ⟨hs.1, ?_⟩
  cases h : ls p with
  | nil => simpa using hs.2
  | cons c l => rfl
theorem fmt_zeros (n : Int) : digitsB (⟨#[48, 48, 48]⟩ ++ fmtS n) = true ∧ perV (⟨#[48, 48, 48]⟩ ++ fmtS n) = lim n 2147483647 := by
  have h := digitsB_front ⟨#[48, 48, 48]⟩ (fmtS n) (by decide) (fmtS_digits n)
  refine ⟨h, ?_⟩
  have hv := fmtS_value n
  unfold perV at hv ⊢
  rw [fmtS_digits] at hv
  rw [h, if_pos rfl, ls_append]
  rw [if_pos rfl] at hv
  rw [← hv]
  rfl
/-- Longer digit strings do not mean less. -/
theorem per_more (a b : ByteArray) (ha : digitsB a = true) (hab : digitsB (a ++ b) = true) : perV a ≤ perV (a ++ b) := by
  unfold perV
  rw [ha, hab, if_pos rfl, if_pos rfl, ls_append, perL_append]
  have h1 := perL_range (ls a) 0 (by omega) (by omega) (digitsB_all ha)
  have h2 := digitsB_all hab
  rw [ls_append, List.all_append, Bool.and_eq_true] at h2
  exact (perL_range (ls b) _ h1.1 h1.2.1 h2.2).2.2
/-- Who means digits in front of more means digits himself. -/
theorem digits_front (a b : ByteArray) (h0 : 0 < a.size) (h : digitsB (a ++ b) = true) : digitsB a = true := by
  have h2 := digitsB_all h
  rw [ls_append, List.all_append, Bool.and_eq_true] at h2
  unfold digitsB
  rw [h2.1, isEmpty_ls, decide_eq_false (by omega)]
  rfl

theorem expV_lower (now age : Int) : lim now 1099511627776 ≤ expV now age := by unfold expV lim; omega
theorem expV_upper (now age : Int) : expV now age ≤ 1099511627776 := by unfold expV lim; omega
theorem expV_zero (now : Int) : expV now 0 = lim now 1099511627776 := by unfold expV lim; omega
theorem expV_minus (now : Int) : expV now (-1) = lim now 1099511627776 := by unfold expV lim; omega
theorem expV_mono (now age later : Int) (h : now ≤ later) : expV now age ≤ expV later age := by unfold expV lim; omega
theorem expV_mono2 (now age later : Int) (h : age ≤ later) : expV now age ≤ expV now later := by unfold expV lim; omega
end

section
open Go.RowKit

/-- Splitting at a byte. -/
def splitG (c : UInt8) : List UInt8 → List UInt8 → List (List UInt8)
  | [], cur => [cur]
  | b :: r, cur => if b = c then cur :: splitG c r [] else splitG c r (cur ++ [b])
def splitL (c : UInt8) (l : List UInt8) : List (List UInt8) := splitG c l []
theorem splitG_ne (c : UInt8) : ∀ l cur, splitG c l cur ≠ []
  | [], cur => by simp [splitG]
  | b :: r, cur => by unfold splitG; split <;> simp [splitG_ne c r]
theorem splitL_pos (c : UInt8) (l : List UInt8) : 0 < (splitL c l).length := List.length_pos_iff.2 (splitG_ne c l [])
theorem splitG_length (c : UInt8) : ∀ l cur, (splitG c l cur).length ≤ l.length + 1
  | [], cur => by simp [splitG]
  | b :: r, cur => by
    unfold splitG
    split
    · have := splitG_length c r []; simp; omega
    · have := splitG_length c r (cur ++ [b]); simp; omega
theorem splitL_length (c : UInt8) (l : List UInt8) : (splitL c l).length ≤ l.length + 1 := splitG_length c l []
/-- No byte is the separator. -/
def noB (c : UInt8) (l : List UInt8) : Prop := ∀ b ∈ l, b ≠ c
theorem splitG_free (c : UInt8) : ∀ a cur r, noB c a → splitG c (a ++ c :: r) cur = (cur ++ a) :: splitG c r []
  | [], cur, r, _ => by simp [splitG]
  | b :: a, cur, r, h => by
    have hb : b ≠ c := h b (by simp)
    rw [List.cons_append, splitG, if_neg hb, splitG_free c a (cur ++ [b]) r (fun x hx => h x (by simp [hx]))]
    simp
theorem splitG_last (c : UInt8) : ∀ a cur, noB c a → splitG c a cur = [cur ++ a]
  | [], cur, _ => by simp [splitG]
  | b :: a, cur, h => by
    have hb : b ≠ c := h b (by simp)
    rw [splitG, if_neg hb, splitG_last c a (cur ++ [b]) (fun x hx => h x (by simp [hx]))]
    simp
theorem splitL_cons (c : UInt8) (a r : List UInt8) (h : noB c a) : splitL c (a ++ c :: r) = a :: splitL c r := by
  unfold splitL; rw [splitG_free c a [] r h]; rfl
theorem splitL_one (c : UInt8) (a : List UInt8) (h : noB c a) : splitL c a = [a] := by
  unfold splitL; rw [splitG_last c a [] h]; rfl
/-- The parts with the separator between them. -/
def joinL (c : UInt8) : List (List UInt8) → List UInt8
  | [] => []
  | [a] => a
  | a :: b :: r => a ++ c :: joinL c (b :: r)
theorem joinL_cons (c : UInt8) (a : List UInt8) (p : List (List UInt8)) (h : p ≠ []) : joinL c (a :: p) = a ++ c :: joinL c p := by
  cases p with
  | nil => exact absurd rfl h
  | cons b r => rfl
theorem join_splitG (c : UInt8) : ∀ l cur, joinL c (splitG c l cur) = cur ++ l
  | [], cur => by simp [splitG, joinL]
  | b :: r, cur => by
    unfold splitG
    split
    · rename_i h
      rw [joinL_cons c _ _ (splitG_ne c r []), join_splitG c r []]
      simp [h]
    · rw [join_splitG c r (cur ++ [b])]; simp
theorem join_splitL (c : UInt8) (l : List UInt8) : joinL c (splitL c l) = l := by unfold splitL; rw [join_splitG]; rfl
theorem split_joinL (c : UInt8) : ∀ p : List (List UInt8), p ≠ [] → (∀ a ∈ p, noB c a) → splitL c (joinL c p) = p
  | [], h, _ => absurd rfl h
  | [a], _, h => splitL_one c a (h a (by simp))
  | a :: b :: r, _, h => by
    rw [joinL, splitL_cons c a _ (h a (by simp)), split_joinL c (b :: r) (by simp) (fun x hx => h x (by simp at hx ⊢; exact .inr hx))]

/-- A dot at the end. -/
theorem splitG_dot (c : UInt8) : ∀ l cur, splitG c (l ++ [c]) cur = splitG c l cur ++ [[]]
  | [], cur => by simp [splitG]
  | b :: r, cur => by
    rw [List.cons_append, splitG, splitG]
    split
    · rw [splitG_dot c r []]; rfl
    · rw [splitG_dot c r (cur ++ [b])]
end

end Go.Proofs.YtpccpgihldpiiaaGreatDoor
