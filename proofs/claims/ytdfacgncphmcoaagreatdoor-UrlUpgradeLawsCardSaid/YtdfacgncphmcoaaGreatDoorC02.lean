/-
Text in UTF-8 in plain words: its code points, and back; small letters. No program.
Labels in plain words: canonical labels, ToASCII, ToUnicode, and their laws. No program.
Plain mathematics of package seconds (layer 4): no program.
Splitting at a byte: no program.
IPv4 addresses in plain words: no program.
-/
import Derived.Test.YtdfacgncphmcoaaGreatDoorC01
import Derived.Lib.ItoaNum
namespace Go.Proofs.YtdfacgncphmcoaaGreatDoor
section
open Go.RowKit
/-- What a first byte says: how many bytes, the value so far, the least value. -/
def lead8 (b : Nat) : Option (Nat × Nat × Nat) :=
  if b < 128 then some (0, b, 0) else if 194 ≤ b ∧ b < 224 then some (1, b - 192, 128) else if 224 ≤ b ∧ b < 240 then some (2, b - 224, 2048)
  else if 240 ≤ b ∧ b < 245 then some (3, b - 240, 65536) else none
/-- The value behind k further bytes. -/
def cont8 : Nat → Nat → List UInt8 → Option Nat
  | 0, v, _ => some v
  | _ + 1, _, [] => none
  | k + 1, v, c :: l => if 128 ≤ c.toNat ∧ c.toNat ≤ 191 then cont8 k (v * 64 + c.toNat - 128) l else none
/-- The first code point, and how many bytes there are behind its first. -/
def one8 (b : UInt8) (l : List UInt8) : Option (Nat × Nat) := match lead8 b.toNat with
  | none => none
  | some (k, v, least) => match cont8 k v l with
    | none => none
    | some u => if u < least ∨ ptN u = false then none else some (u, k)
def ptsGo : Nat → List UInt8 → Option (List Nat)
  | _, [] => some []
  | 0, _ :: _ => none
  | f + 1, b :: l => match one8 b l with
    | none => none
    | some (u, k) => (ptsGo f (l.drop k)).map (u :: ·)
def ptsL (l : List UInt8) : Option (List Nat) := ptsGo l.length l
/-- A code point in UTF-8. -/
def txt8 (p : Nat) : List UInt8 :=
  if p < 128 then [UInt8.ofNat p] else if p < 2048 then [UInt8.ofNat (192 + p / 64), UInt8.ofNat (128 + p % 64)]
  else if p < 65536 then [UInt8.ofNat (224 + p / 4096), UInt8.ofNat (128 + p / 64 % 64), UInt8.ofNat (128 + p % 64)]
  else [UInt8.ofNat (240 + p / 262144), UInt8.ofNat (128 + p / 4096 % 64), UInt8.ofNat (128 + p / 64 % 64), UInt8.ofNat (128 + p % 64)]
def txtL (P : List Nat) : List UInt8 := P.flatMap txt8
theorem of8 {x : Nat} (h : x < 256) : (UInt8.ofNat x).toNat = x := by
  rw [UInt8.toNat_ofNat']
  omega
theorem cont8_drop : ∀ (k v : Nat) (l : List UInt8) (u : Nat), cont8 k v l = some u → k ≤ l.length
  | 0, _, _, _, _ => Nat.zero_le _
  | k + 1, _, [], _, h => by simp [cont8] at h
  | k + 1, v, c :: l, u, h => by
    rw [cont8] at h
    split at h
    · have := cont8_drop k _ l u h
      simp
      omega
    · cases h
theorem ptsGo_fuel : ∀ (f g : Nat) (l : List UInt8), l.length ≤ f → l.length ≤ g → ptsGo f l = ptsGo g l
  | f, g, [], _, _ => by cases f <;> cases g <;> rfl
  | 0, g, b :: l, h, _ => by simp at h
  | f, 0, b :: l, _, h => by simp at h
  | f + 1, g + 1, b :: l, hf, hg => by
    rw [ptsGo, ptsGo]
    cases one8 b l with
    | none => rfl
    | some x =>
      obtain ⟨u, k⟩ := x
      show (ptsGo f (l.drop k)).map _ = (ptsGo g (l.drop k)).map _
      rw [ptsGo_fuel f g (l.drop k) (by simp at hf ⊢; omega) (by simp at hg ⊢; omega)]
theorem ptsL_cons (b : UInt8) (l : List UInt8) : ptsL (b :: l) = match one8 b l with
    | none => none
    | some (u, k) => (ptsL (l.drop k)).map (u :: ·) := by
  unfold ptsL
  rw [List.length_cons, ptsGo]
  cases one8 b l with
  | none => rfl
  | some x =>
    obtain ⟨u, k⟩ := x
    show (ptsGo l.length (l.drop k)).map _ = (ptsGo (l.drop k).length (l.drop k)).map _
    rw [ptsGo_fuel l.length (l.drop k).length (l.drop k) (by simp) (Nat.le_refl _)]
theorem ptsL_nil : ptsL [] = some [] := rfl
/-- A code point's bytes are read as this code point. -/
theorem one8_txt {p : Nat} (hp : ptN p = true) (r : List UInt8) : ∃ b x, txt8 p = b :: x ∧ one8 b (x ++ r) = some (p, x.length) := by
  have hle := ptN_le hp
  unfold txt8
  by_cases h1 : p < 128
  · rw [if_pos h1]
    refine ⟨_, _, rfl, ?_⟩
    unfold one8 lead8
    rw [of8 (by omega), if_pos h1]
    simp [cont8, hp]
  · rw [if_neg h1]
    by_cases h2 : p < 2048
    · rw [if_pos h2]
      refine ⟨_, _, rfl, ?_⟩
      unfold one8 lead8
      rw [of8 (by omega), if_neg (by omega), if_pos (by omega)]
      simp only [List.cons_append, List.nil_append, cont8]
      rw [of8 (by omega), if_pos (by omega)]
      have e : (192 + p / 64 - 192) * 64 + (128 + p % 64) - 128 = p := by omega
      rw [e]
      simp only []
      rw [if_neg (by rw [hp]; simp; omega)]
      rfl
    · rw [if_neg h2]
      by_cases h3 : p < 65536
      · rw [if_pos h3]
        refine ⟨_, _, rfl, ?_⟩
        unfold one8 lead8
        rw [of8 (by omega), if_neg (by omega), if_neg (by omega), if_pos (by omega)]
        simp only [List.cons_append, List.nil_append, cont8]
        rw [of8 (by omega), of8 (by omega), if_pos (by omega), if_pos (by omega)]
        have e : ((224 + p / 4096 - 224) * 64 + (128 + p / 64 % 64) - 128) * 64 + (128 + p % 64) - 128 = p := by omega
        rw [e]
        simp only []
        rw [if_neg (by rw [hp]; simp; omega)]
        rfl
      · rw [if_neg h3]
        refine ⟨_, _, rfl, ?_⟩
        unfold one8 lead8
        rw [of8 (by omega), if_neg (by omega), if_neg (by omega), if_neg (by omega), if_pos (by omega)]
        simp only [List.cons_append, List.nil_append, cont8]
        rw [of8 (by omega), of8 (by omega), of8 (by omega), if_pos (by omega), if_pos (by omega), if_pos (by omega)]
        have e : (((240 + p / 262144 - 240) * 64 + (128 + p / 4096 % 64) - 128) * 64 + (128 + p / 64 % 64) - 128) * 64 + (128 + p % 64) - 128 = p := by omega
        rw [e]
        simp only []
        rw [if_neg (by rw [hp]; simp; omega)]
        rfl
theorem pts_txt : ∀ (P : List Nat), (∀ p ∈ P, ptN p = true) → ptsL (txtL P) = some P
  | [], _ => rfl
  | p :: P, h => by
    obtain ⟨b, x, e, ho⟩ := one8_txt (h p (by simp)) (txtL P)
    have ih := pts_txt P (fun q hq => h q (by simp [hq]))
    show ptsL (txt8 p ++ txtL P) = _
    rw [e, List.cons_append, ptsL_cons, ho]
    show (ptsL ((x ++ txtL P).drop x.length)).map _ = _
    rw [List.drop_left, ih]
    rfl
theorem cont8_take : ∀ (k v : Nat) (l : List UInt8) (u : Nat), cont8 k v l = some u → ∃ x, x.length = k ∧ l = x ++ l.drop k ∧ (∀ c ∈ x, 128 ≤ c.toNat ∧ c.toNat ≤ 191) ∧ u = x.foldl (fun a c => a * 64 + c.toNat - 128) v
  | 0, v, l, u, h => ⟨[], rfl, rfl, (fun c hc => by simp at hc), by injection h with h; exact h.symm⟩
  | k + 1, _, [], _, h => by simp [cont8] at h
  | k + 1, v, c :: l, u, h => by
    rw [cont8] at h
    split at h
    · rename_i hc
      obtain ⟨x, h1, h2, h3, h4⟩ := cont8_take k _ l u h
      have h5 : c :: l = c :: (x ++ l.drop k) := congrArg (List.cons c) h2
      refine ⟨c :: x, by simp [h1], h5, ?_, by rw [List.foldl_cons]; exact h4⟩
      intro d hd
      rcases List.mem_cons.1 hd with rfl | hd
      · exact hc
      · exact h3 d hd
    · cases h
theorem u8_eq {c : UInt8} {n : Nat} (h : c.toNat = n) : UInt8.ofNat n = c := by
  rw [← h]
  exact UInt8.ofNat_toNat
theorem list1 {x : List UInt8} (h : x.length = 1) : ∃ c, x = [c] := by
  match x, h with
  | [c], _ => exact ⟨c, rfl⟩
theorem list2 {x : List UInt8} (h : x.length = 2) : ∃ c d, x = [c, d] := by
  match x, h with
  | [c, d], _ => exact ⟨c, d, rfl⟩
theorem list3 {x : List UInt8} (h : x.length = 3) : ∃ c d e, x = [c, d, e] := by
  match x, h with
  | [c, d, e], _ => exact ⟨c, d, e, rfl⟩
/-- What is read as a code point are this code point's bytes. -/
theorem txt_one8 {b : UInt8} {l : List UInt8} {u k : Nat} (h : one8 b l = some (u, k)) : ptN u = true ∧ k ≤ l.length ∧ txt8 u ++ l.drop k = b :: l := by
  unfold one8 at h
  cases hL : lead8 b.toNat with
  | none => rw [hL] at h; cases h
  | some q =>
    obtain ⟨k', v, least⟩ := q
    rw [hL] at h
    simp only [] at h
    cases hC : cont8 k' v l with
    | none => rw [hC] at h; cases h
    | some u' =>
      rw [hC] at h
      simp only [] at h
      split at h
      · cases h
      · rename_i hno
        injection h with h
        injection h with e1 e2
        subst e1 e2
        have hpt : ptN u' = true := by cases hh : ptN u' with
          | true => rfl
          | false => exact absurd (.inr hh) hno
        have hls : least ≤ u' := by
          by_cases hlt : u' < least
          · exact absurd (.inl hlt) hno
          · omega
        refine ⟨hpt, cont8_drop _ _ _ _ hC, ?_⟩
        obtain ⟨x, hx, hl, hr, hu⟩ := cont8_take _ _ _ _ hC
        have hb := b.toNat_lt
        suffices hs : txt8 u' = b :: x by rw [hs, List.cons_append, ← hl]
        clear hC hno hl
        unfold lead8 at hL
        split at hL
        · rename_i h1
          obtain ⟨e1, e23⟩ := Prod.mk.inj (Option.some.inj hL)
          obtain ⟨e2, e3⟩ := Prod.mk.inj e23
          subst e1 e2 e3
          obtain rfl : x = [] := List.eq_nil_of_length_eq_zero hx
          have hu' : u' = b.toNat := hu
          unfold txt8
          rw [if_pos (by omega), hu', UInt8.ofNat_toNat]
        · rename_i h1
          split at hL
          · rename_i h2
            obtain ⟨e1, e23⟩ := Prod.mk.inj (Option.some.inj hL)
            obtain ⟨e2, e3⟩ := Prod.mk.inj e23
            subst e1 e2 e3
            obtain ⟨c, rfl⟩ := list1 hx
            have r1 := hr c (by simp)
            have hu' : u' = (b.toNat - 192) * 64 + c.toNat - 128 := hu
            unfold txt8
            rw [if_neg (by omega), if_pos (by omega), u8_eq (c := b) (by omega), u8_eq (c := c) (by omega)]
          · rename_i h2
            split at hL
            · rename_i h3
              obtain ⟨e1, e23⟩ := Prod.mk.inj (Option.some.inj hL)
              obtain ⟨e2, e3⟩ := Prod.mk.inj e23
              subst e1 e2 e3
              obtain ⟨c, d, rfl⟩ := list2 hx
              have r1 := hr c (by simp)
              have r2 := hr d (by simp)
              have hu' : u' = ((b.toNat - 224) * 64 + c.toNat - 128) * 64 + d.toNat - 128 := hu
              unfold txt8
              rw [if_neg (by omega), if_neg (by omega), if_pos (by omega), u8_eq (c := b) (by omega), u8_eq (c := c) (by omega), u8_eq (c := d) (by omega)]
            · rename_i h3
              split at hL
              · rename_i h4
                obtain ⟨e1, e23⟩ := Prod.mk.inj (Option.some.inj hL)
                obtain ⟨e2, e3⟩ := Prod.mk.inj e23
                subst e1 e2 e3
                obtain ⟨c, d, f, rfl⟩ := list3 hx
                have r1 := hr c (by simp)
                have r2 := hr d (by simp)
                have r3 := hr f (by simp)
                have hu' : u' = (((b.toNat - 240) * 64 + c.toNat - 128) * 64 + d.toNat - 128) * 64 + f.toNat - 128 := hu
                have hle := ptN_le hpt
                unfold txt8
                rw [if_neg (by omega), if_neg (by omega), if_neg (by omega), u8_eq (c := b) (by omega), u8_eq (c := c) (by omega), u8_eq (c := d) (by omega), u8_eq (c := f) (by omega)]
              · cases hL
theorem txt_ptsGo : ∀ (f : Nat) (l : List UInt8) (P : List Nat), ptsGo f l = some P → (∀ p ∈ P, ptN p = true) ∧ txtL P = l
  | f, [], P, h => by
    have : P = [] := by cases f <;> (injection h with h; exact h.symm)
    subst this
    exact ⟨fun p hp => by simp at hp, rfl⟩
  | 0, b :: l, P, h => by simp [ptsGo] at h
  | f + 1, b :: l, P, h => by
    rw [ptsGo] at h
    cases ho : one8 b l with
    | none => rw [ho] at h; cases h
    | some x =>
      obtain ⟨u, k⟩ := x
      rw [ho] at h
      simp only [] at h
      cases hg : ptsGo f (l.drop k) with
      | none => rw [hg] at h; cases h
      | some Q =>
        rw [hg] at h
        injection h with h
        subst h
        obtain ⟨i1, i2⟩ := txt_ptsGo f _ Q hg
        obtain ⟨o1, _, o3⟩ := txt_one8 ho
        refine ⟨?_, ?_⟩
        · intro p hp
          rcases List.mem_cons.1 hp with rfl | hp
          · exact o1
          · exact i1 p hp
        · show txt8 u ++ txtL Q = _
          rw [i2, o3]
theorem txt_pts {l : List UInt8} {P : List Nat} (h : ptsL l = some P) : (∀ p ∈ P, ptN p = true) ∧ txtL P = l := txt_ptsGo _ l P h
theorem txt8_len (p : Nat) : 1 ≤ (txt8 p).length ∧ (128 ≤ p → 2 ≤ (txt8 p).length) ∧ (p < 128 → (txt8 p).length = 1) ∧ (txt8 p).length ≤ 4 := by
  unfold txt8
  split
  · exact ⟨Nat.le_refl _, fun _ => by omega, fun _ => rfl, by simp⟩
  · split
    · exact ⟨by simp, fun _ => by simp, fun _ => by omega, by simp⟩
    · split
      · exact ⟨by simp, fun _ => by simp, fun _ => by omega, by simp⟩
      · exact ⟨by simp, fun _ => by simp, fun _ => by omega, by simp⟩
theorem txtL_len : ∀ (P : List Nat), P.length ≤ (txtL P).length ∧ ((∃ p ∈ P, 128 ≤ p) → P.length < (txtL P).length) ∧ ((∀ p ∈ P, p < 128) → P.length = (txtL P).length)
  | [] => ⟨Nat.le_refl _, (fun ⟨p, hp, _⟩ => by simp at hp), fun _ => rfl⟩
  | p :: P => by
    obtain ⟨i1, i2, i3⟩ := txtL_len P
    obtain ⟨a1, a2, a3, _⟩ := txt8_len p
    have e : (txtL (p :: P)).length = (txt8 p).length + (txtL P).length := by
      show (txt8 p ++ txtL P).length = _
      rw [List.length_append]
    rw [e, List.length_cons]
    refine ⟨by omega, ?_, ?_⟩
    · rintro ⟨q, hq, h⟩
      rcases List.mem_cons.1 hq with rfl | hq
      · have := a2 h; omega
      · have := i2 ⟨q, hq, h⟩; omega
    · intro h
      have h1 := a3 (h p (by simp))
      have h2 := i3 (fun q hq => h q (by simp [hq]))
      omega
theorem txtL_ascii : ∀ (l : List UInt8), (∀ b ∈ l, b.toNat < 128) → txtL (l.map UInt8.toNat) = l
  | [], _ => rfl
  | b :: l, h => by
    show txt8 b.toNat ++ txtL (l.map UInt8.toNat) = _
    rw [txtL_ascii l (fun c hc => h c (by simp [hc]))]
    unfold txt8
    rw [if_pos (h b (by simp)), UInt8.ofNat_toNat]
    rfl
theorem ptN_ascii {n : Nat} (h : n < 128) : ptN n = true := by
  unfold ptN
  simp
  omega
theorem pts_ascii {l : List UInt8} (h : ∀ b ∈ l, b.toNat < 128) : ptsL l = some (l.map UInt8.toNat) := by
  have h2 := pts_txt (l.map UInt8.toNat) (fun p hp => by obtain ⟨b, hb, rfl⟩ := List.mem_map.1 hp; exact ptN_ascii (h b hb))
  rw [txtL_ascii l h] at h2
  exact h2
/-- Small letters, of code points. -/
def lowP (p : Nat) : Nat := if 65 ≤ p ∧ p ≤ 90 then p + 32 else p
theorem lowU_small {b : UInt8} (h : b.toNat < 65 ∨ 90 < b.toNat) : lowU b = b := by
  refine UInt8.toNat_inj.1 ?_
  have := lowU_toNat b
  unfold lowI upperB at this
  have hb : (decide (65 ≤ (b.toNat : Int)) && decide ((b.toNat : Int) ≤ 90)) = false := by simp; omega
  rw [hb] at this
  simp at this
  omega
theorem lowU_big {b : UInt8} (h : 65 ≤ b.toNat ∧ b.toNat ≤ 90) : (lowU b).toNat = b.toNat + 32 := by
  have := lowU_toNat b
  unfold lowI upperB at this
  have hb : (decide (65 ≤ (b.toNat : Int)) && decide ((b.toNat : Int) ≤ 90)) = true := by simp; omega
  rw [hb] at this
  simp at this
  omega
theorem cont8_low : ∀ (k v : Nat) (l : List UInt8), cont8 k v (lowL l) = cont8 k v l
  | 0, _, _ => rfl
  | _ + 1, _, [] => rfl
  | k + 1, v, c :: l => by
    show (if 128 ≤ (lowU c).toNat ∧ (lowU c).toNat ≤ 191 then cont8 k (v * 64 + (lowU c).toNat - 128) (lowL l) else none) = _
    rw [cont8_low, cont8]
    by_cases h : 65 ≤ c.toNat ∧ c.toNat ≤ 90
    · have := lowU_big h
      rw [if_neg (by omega), if_neg (by omega)]
    · rw [lowU_small (by omega)]
theorem lowP_pt {p : Nat} (h : ptN p = true) : ptN (lowP p) = true := by
  unfold lowP
  split
  · exact ptN_ascii (by omega)
  · exact h
theorem one8_low (b : UInt8) (l : List UInt8) : one8 (lowU b) (lowL l) = (one8 b l).map fun x => (lowP x.1, x.2) := by
  unfold one8
  by_cases h : 65 ≤ b.toNat ∧ b.toNat ≤ 90
  · have hb := lowU_big h
    have l1 : lead8 (lowU b).toNat = some (0, b.toNat + 32, 0) := by unfold lead8; rw [hb, if_pos (by omega)]
    have l2 : lead8 b.toNat = some (0, b.toNat, 0) := by unfold lead8; rw [if_pos (by omega)]
    rw [l1, l2]
    simp only [cont8]
    rw [if_neg (by rw [ptN_ascii (by omega)]; simp), if_neg (by rw [ptN_ascii (by omega)]; simp)]
    show some (b.toNat + 32, 0) = some (lowP b.toNat, 0)
    unfold lowP
    rw [if_pos h]
  · rw [lowU_small (by omega)]
    cases hL : lead8 b.toNat with
    | none => rfl
    | some q =>
      obtain ⟨k, v, least⟩ := q
      simp only [cont8_low]
      cases hC : cont8 k v l with
      | none => rfl
      | some u =>
        simp only []
        split
        · rfl
        · rename_i hno
          show some (u, k) = some (lowP u, k)
          have hu : lowP u = u := by
            unfold lowP
            rw [if_neg]
            intro hc
            unfold lead8 at hL
            split at hL
            · obtain ⟨e1, e23⟩ := Prod.mk.inj (Option.some.inj hL)
              obtain ⟨e2, e3⟩ := Prod.mk.inj e23
              subst e1 e2 e3
              injection hC with hC
              omega
            · have : 128 ≤ least := by
                split at hL
                · have e3 := (Prod.mk.inj (Prod.mk.inj (Option.some.inj hL)).2).2; omega
                · split at hL
                  · have e3 := (Prod.mk.inj (Prod.mk.inj (Option.some.inj hL)).2).2; omega
                  · split at hL
                    · have e3 := (Prod.mk.inj (Prod.mk.inj (Option.some.inj hL)).2).2; omega
                    · cases hL
              exact hno (.inl (by omega))
          rw [hu]
theorem ptsGo_low : ∀ (f : Nat) (l : List UInt8), ptsGo f (lowL l) = (ptsGo f l).map (List.map lowP)
  | f, [] => by cases f <;> rfl
  | 0, b :: l => rfl
  | f + 1, b :: l => by
    show (match one8 (lowU b) (lowL l) with
      | none => none
      | some (u, k) => (ptsGo f ((lowL l).drop k)).map (u :: ·)) = _
    rw [one8_low, ptsGo]
    cases one8 b l with
    | none => rfl
    | some x =>
      obtain ⟨u, k⟩ := x
      show (ptsGo f ((lowL l).drop k)).map (lowP u :: ·) = ((ptsGo f (l.drop k)).map (u :: ·)).map (List.map lowP)
      have e : (lowL l).drop k = lowL (l.drop k) := by unfold lowL; rw [List.map_drop]
      rw [e, ptsGo_low f (l.drop k)]
      cases ptsGo f (l.drop k) with
      | none => rfl
      | some Q => rfl
theorem pts_low (l : List UInt8) : ptsL (lowL l) = (ptsL l).map (List.map lowP) := by
  unfold ptsL
  rw [lowL_length]
  exact ptsGo_low _ l
theorem lowP_lowP (p : Nat) : lowP (lowP p) = lowP p := by
  unfold lowP
  split
  · rw [if_neg (by omega)]
  · rfl
theorem lowP_map (P : List Nat) : (P.map lowP).map lowP = P.map lowP := by
  rw [List.map_map]
  exact List.map_congr_left fun p _ => lowP_lowP p
end

section
open Go.RowKit
/-- The four bytes of 'xn--'. -/
def xnL : List UInt8 := [120, 110, 45, 45]
def okN (n : Nat) : Bool := (decide (97 ≤ n) && decide (n ≤ 122)) || (decide (48 ≤ n) && decide (n ≤ 57)) || n == 45 || n == 95
def bigP (p : Nat) : Bool := decide (65 ≤ p) && decide (p ≤ 90)
/-- Whether the rest behind 'xn--' is proper. -/
def propL (r : List UInt8) : Bool := match decL r with
  | .error _ => false
  | .ok p => p.any (fun x => decide (128 ≤ x)) && p.all (fun x => !bigP x) && decide (encB p = r)
def endsL (l : List UInt8) : Bool := decide (l ≠ []) && decide (l.length ≤ 63) && decide (l.head? ≠ some 45) && decide (l.getLast? ≠ some 45)
def labL (l : List UInt8) : Bool := endsL l && l.all (fun b => okN b.toNat) && (decide (l.take 4 ≠ xnL) || propL (l.drop 4))
def toAOut (l : List UInt8) (P : List Nat) : List UInt8 := if P.length < l.length then xnL ++ encB (P.map lowP) else lowL l
def toA (l : List UInt8) : Nat × List UInt8 := match ptsL l with
  | none => (4, [])
  | some P => if 256 < P.length then (3, []) else if labL (toAOut l P) = true then (0, toAOut l P) else (14, [])
def toUOut (l : List UInt8) : List UInt8 := if l.take 4 = xnL then txtL (puV' (l.drop 4)) else l
where puV' (r : List UInt8) : List Nat := match decL r with
  | .ok p => p
  | .error _ => []
def toU (l : List UInt8) : Nat × List UInt8 := if labL l = true then (0, toUOut l) else (14, [])
theorem okN_ascii {n : Nat} (h : okN n = true) : n < 128 ∧ ¬ (65 ≤ n ∧ n ≤ 90) := by
  unfold okN at h
  simp only [Bool.or_eq_true, Bool.and_eq_true, decide_eq_true_eq, beq_iff_eq] at h
  omega
theorem lab_all {l : List UInt8} (h : labL l = true) : (∀ b ∈ l, b.toNat < 128) ∧ lowL l = l ∧ l.length ≤ 63 := by
  unfold labL at h
  simp only [Bool.and_eq_true] at h
  have ha : ∀ b ∈ l, okN b.toNat = true := fun b hb => List.all_eq_true.1 h.1.2 b hb
  refine ⟨fun b hb => (okN_ascii (ha b hb)).1, ?_, ?_⟩
  · unfold lowL
    have : l.map lowU = l.map id := List.map_congr_left fun b hb => lowU_small (by have := (okN_ascii (ha b hb)).2; omega)
    rw [this, List.map_id]
  · have := h.1.1
    unfold endsL at this
    simp only [Bool.and_eq_true, decide_eq_true_eq] at this
    omega
theorem prop_of {r : List UInt8} (h : propL r = true) : ∃ p, decL r = .ok p ∧ (∀ x ∈ p, ptN x = true) ∧ p.length ≤ 256 ∧ (∃ x ∈ p, 128 ≤ x) ∧ p.map lowP = p ∧ encB p = r := by
  unfold propL at h
  cases hd : decL r with
  | error e => rw [hd] at h; cases h
  | ok p =>
    rw [hd] at h
    simp only [Bool.and_eq_true, decide_eq_true_eq] at h
    obtain ⟨⟨h1, h2⟩, h3⟩ := h
    obtain ⟨e1, e2, _, _⟩ := enc_dec hd
    refine ⟨p, rfl, e1, e2, ?_, ?_, h3⟩
    · obtain ⟨x, hx, hy⟩ := List.any_eq_true.1 h1
      exact ⟨x, hx, of_decide_eq_true hy⟩
    · have : p.map lowP = p.map id := List.map_congr_left fun x hx => by
        have := List.all_eq_true.1 h2 x hx
        unfold bigP at this
        unfold lowP
        rw [if_neg]
        · rfl
        · rintro ⟨a, b⟩
          rw [decide_eq_true a, decide_eq_true b] at this
          cases this
      rw [this, List.map_id]
theorem toA_lab {a : List UInt8} (h : labL a = true) : toA a = (0, a) := by
  obtain ⟨h1, h2, h3⟩ := lab_all h
  unfold toA
  rw [pts_ascii h1]
  have e : toAOut a (a.map UInt8.toNat) = a := by unfold toAOut; rw [if_neg (by rw [List.length_map]; omega), h2]
  simp only [e]
  rw [if_neg (by rw [List.length_map]; omega), if_pos h]
theorem toA_low (l : List UInt8) : toA (lowL l) = toA l := by
  unfold toA
  rw [pts_low]
  cases ptsL l with
  | none => rfl
  | some P =>
    have e : toAOut (lowL l) (P.map lowP) = toAOut l P := by
      unfold toAOut
      rw [List.length_map, lowL_length, lowP_map, lowL_lowL]
    simp only [Option.map_some, e, List.length_map]
theorem toA_cases (l : List UInt8) : (toA l).1 = 0 ∧ labL (toA l).2 = true ∨ (toA l).1 ≠ 0 ∧ (toA l).2 = [] := by
  unfold toA
  cases ptsL l with
  | none => exact .inr ⟨(fun e => by cases e), rfl⟩
  | some P =>
    simp only []
    split
    · exact .inr ⟨by decide, rfl⟩
    · split
      · rename_i h; exact .inl ⟨rfl, h⟩
      · exact .inr ⟨by decide, rfl⟩
theorem toU_cases (l : List UInt8) : labL l = true ∧ (toU l).1 = 0 ∨ labL l = false ∧ toU l = (14, []) := by
  unfold toU
  by_cases h : labL l = true
  · rw [if_pos h]; exact .inl ⟨h, rfl⟩
  · rw [if_neg h]; exact .inr ⟨by simpa using h, rfl⟩
end

section
open Go.RowKit
theorem digitU_iff (c : UInt8) : digitU c = true ↔ 48 ≤ (c.toNat : Int) ∧ (c.toNat : Int) ≤ 57 := by simp [digitU, digitB]
theorem isEmpty_ls (s : ByteArray) : (ls s).isEmpty = decide (s.size = 0) := by
  rw [← ls_length]
  cases ls s <;> simp
/-- The decimal digits. -/
theorem dec_step (u : Nat) (h : ¬ u < 10) : Lib.decDigits u = Lib.decDigits (u / 10) ++ [UInt8.ofNat (48 + u % 10)] := by
  rw [Lib.decDigits, dif_neg h]
theorem digit_of (d : Nat) (h : d < 10) : ((UInt8.ofNat (48 + d)).toNat : Int) = 48 + d := by
  rw [UInt8.toNat_ofNat']; omega
theorem digit_is (d : Nat) (h : d < 10) : digitU (UInt8.ofNat (48 + d)) = true := by
  rw [digitU_iff, digit_of d h]; omega
theorem dec_digits (u : Nat) : (Lib.decDigits u).all digitU = true := by
  induction u using Nat.strongRecOn with
  | ind u ih =>
    by_cases h : u < 10
    · rw [Lib.decDigits_one h]
      rw [List.all_cons, digit_is u h]; rfl
    · rw [dec_step u h, List.all_append, ih (u / 10) (by omega)]
      rw [List.all_cons, digit_is (u % 10) (by omega)]; rfl
theorem dec_ne (u : Nat) : Lib.decDigits u ≠ [] := by
  intro h
  have := Lib.decDigits_length u
  have h2 := Lib.nDigits_pos u
  rw [h] at this
  simp at this
  omega
end

section
open Go.RowKit
/-- Splitting at a byte. -/
def splitG (c : UInt8) : List UInt8 → List UInt8 → List (List UInt8)
  | [], cur => [cur]
  | b :: r, cur => if b = c then cur :: splitG c r [] else splitG c r (cur ++ [b])
def splitL (c : UInt8) (l : List UInt8) : List (List UInt8) := splitG c l []
theorem splitG_ne (c : UInt8) : ∀ l cur, splitG c l cur ≠ []
  | [], cur => by simp [splitG]
  | b :: r, cur => by unfold splitG; split <;> simp [splitG_ne c r]
theorem splitL_pos (c : UInt8) (l : List UInt8) : 0 < (splitL c l).length := List.length_pos_iff.2 (splitG_ne c l [])
theorem splitG_length (c : UInt8) : ∀ l cur, (splitG c l cur).length ≤ l.length + 1
  | [], cur => by simp [splitG]
  | b :: r, cur => by
    unfold splitG
    split
    · have := splitG_length c r []; simp; omega
    · have := splitG_length c r (cur ++ [b]); simp; omega
theorem splitL_length (c : UInt8) (l : List UInt8) : (splitL c l).length ≤ l.length + 1 := splitG_length c l []
/-- No byte is the separator. -/
def noB (c : UInt8) (l : List UInt8) : Prop := ∀ b ∈ l, b ≠ c
theorem splitG_free (c : UInt8) : ∀ a cur r, noB c a → splitG c (a ++ c :: r) cur = (cur ++ a) :: splitG c r []
  | [], cur, r, _ => by simp [splitG]
  | b :: a, cur, r, h => by
    have hb : b ≠ c := h b (by simp)
    rw [List.cons_append, splitG, if_neg hb, splitG_free c a (cur ++ [b]) r (fun x hx => h x (by simp [hx]))]
    simp
theorem splitG_last (c : UInt8) : ∀ a cur, noB c a → splitG c a cur = [cur ++ a]
  | [], cur, _ => by simp [splitG]
  | b :: a, cur, h => by
    have hb : b ≠ c := h b (by simp)
    rw [splitG, if_neg hb, splitG_last c a (cur ++ [b]) (fun x hx => h x (by simp [hx]))]
    simp
theorem splitL_cons (c : UInt8) (a r : List UInt8) (h : noB c a) : splitL c (a ++ c :: r) = a :: splitL c r := by
  unfold splitL; rw [splitG_free c a [] r h]; rfl
theorem splitL_one (c : UInt8) (a : List UInt8) (h : noB c a) : splitL c a = [a] := by
  unfold splitL; rw [splitG_last c a [] h]; rfl
/-- The parts with the separator between them. -/
def joinL (c : UInt8) : List (List UInt8) → List UInt8
  | [] => []
  | [a] => a
  | a :: b :: r => a ++ c :: joinL c (b :: r)
theorem joinL_cons (c : UInt8) (a : List UInt8) (p : List (List UInt8)) (h : p ≠ []) : joinL c (a :: p) = a ++ c :: joinL c p := by
  cases p with
  | nil => exact absurd rfl h
  | cons b r => rfl
theorem join_splitG (c : UInt8) : ∀ l cur, joinL c (splitG c l cur) = cur ++ l
  | [], cur => by simp [splitG, joinL]
  | b :: r, cur => by
    unfold splitG
    split
    · rename_i h
      rw [joinL_cons c _ _ (splitG_ne c r []), join_splitG c r []]
      simp [h]
    · rw [join_splitG c r (cur ++ [b])]; simp
theorem join_splitL (c : UInt8) (l : List UInt8) : joinL c (splitL c l) = l := by unfold splitL; rw [join_splitG]; rfl
theorem split_joinL (c : UInt8) : ∀ p : List (List UInt8), p ≠ [] → (∀ a ∈ p, noB c a) → splitL c (joinL c p) = p
  | [], h, _ => absurd rfl h
  | [a], _, h => splitL_one c a (h a (by simp))
  | a :: b :: r, _, h => by
    rw [joinL, splitL_cons c a _ (h a (by simp)), split_joinL c (b :: r) (by simp) (fun x hx => h x (by simp at hx ⊢; exact .inr hx))]
/-- A dot at the end. -/
theorem splitG_dot (c : UInt8) : ∀ l cur, splitG c (l ++ [c]) cur = splitG c l cur ++ [[]]
  | [], cur => by simp [splitG]
  | b :: r, cur => by
    rw [List.cons_append, splitG, splitG]
    split
    · rw [splitG_dot c r []]; rfl
    · rw [splitG_dot c r (cur ++ [b])]
end

section
open Go.RowKit
/-- The parts of a string, the last one left out if it is empty and not alone. -/
def partsL (l : List UInt8) : List (List UInt8) := if 1 < (splitL 46 l).length ∧ (splitL 46 l).getLast? = some [] then (splitL 46 l).dropLast else splitL 46 l
/-- The value of a digit, or 99. -/
def digV (b : UInt8) : Nat := if 48 ≤ b.toNat ∧ b.toNat ≤ 57 then b.toNat - 48 else if 97 ≤ b.toNat ∧ b.toNat ≤ 102 then b.toNat - 87 else if 65 ≤ b.toNat ∧ b.toNat ≤ 70 then b.toNat - 55 else 99
/-- The value of digits in a base. -/
def valB (base : Nat) (a : Nat) : List UInt8 → Nat
  | [] => a
  | c :: r => valB base (a * base + digV c) r
theorem valB_append (base : Nat) : ∀ (l m : List UInt8) (a : Nat), valB base a (l ++ m) = valB base (valB base a l) m
  | [], _, _ => rfl
  | c :: l, m, a => by rw [List.cons_append, valB, valB, valB_append base l m]
/-- The base and the digits of a part. -/
def baseL : List UInt8 → Nat × List UInt8
  | 48 :: b :: r => if b = 120 ∨ b = 88 then (16, r) else (8, b :: r)
  | l => (10, l)
/-- The number that a part denotes. -/
def numL (l : List UInt8) : Option Nat := if l = [] then none else if (baseL l).2.all (fun c => decide (digV c < (baseL l).1)) = true then some (valB (baseL l).1 0 (baseL l).2) else none
/-- Whether a string ends in a number. -/
def lastNum (l : List UInt8) : Bool := (l.all digitU && !l.isEmpty) || ((numL l).isSome && decide (2 ≤ l.length) && (l.getD 1 0 == 120 || l.getD 1 0 == 88))
def numericL (l : List UInt8) : Bool := lastNum ((partsL l).getLastD [])
/-- The address of numbers, i of them read already. -/
def pnGo : List (List UInt8) → Nat → Nat → Option Nat
  | [], _, acc => some acc
  | [x], i, acc => match numL x with
    | none => none
    | some n => if n < 256 ^ (4 - i) then some (acc + n) else none
  | x :: y :: r, i, acc => match numL x with
    | none => none
    | some n => if n ≤ 255 then pnGo (y :: r) (i + 1) (acc + n * 256 ^ (3 - i)) else none
def pnL (l : List UInt8) : Option Nat := if 4 < (partsL l).length then none else pnGo (partsL l) 0 0
/-- A number from 0 to 255 in the strict form. -/
def decV (l : List UInt8) : Option Nat := (List.range 256).find? fun n => decide (Lib.decDigits n = l)
def four (p : List (List UInt8)) : Option (Nat × Nat × Nat × Nat) := match p with
  | [a, b, c, d] => match decV a, decV b, decV c, decV d with
    | some a, some b, some c, some d => some (a, b, c, d)
    | _, _, _, _ => none
  | _ => none
def parseL (l : List UInt8) : Option Nat := (four (splitL 46 l)).map fun q => ((q.1 * 256 + q.2.1) * 256 + q.2.2.1) * 256 + q.2.2.2
def fmtI (v : Nat) : List UInt8 := joinL 46 [Lib.decDigits (v / 16777216), Lib.decDigits (v / 65536 % 256), Lib.decDigits (v / 256 % 256), Lib.decDigits (v % 256)]
/-- Digits. -/
theorem digV_dig (d : Nat) (h : d < 10) : digV (UInt8.ofNat (48 + d)) = d := by
  have := digit_of d h
  have e : (UInt8.ofNat (48 + d)).toNat = 48 + d := by omega
  unfold digV
  rw [e, if_pos (by omega)]
  omega
theorem digV_digitU (c : UInt8) (h : digitU c = true) : digV c = c.toNat - 48 ∧ digV c < 10 := by
  have := (digitU_iff c).1 h
  unfold digV
  rw [if_pos (by omega)]
  omega
theorem dec_valB : ∀ u : Nat, valB 10 0 (Lib.decDigits u) = u := by
  intro u
  induction u using Nat.strongRecOn with
  | ind u ih =>
    by_cases hu : u < 10
    · rw [Lib.decDigits_one hu, valB, valB, digV_dig u hu]; omega
    · rw [dec_step u hu, valB_append, ih (u / 10) (by omega), valB, valB, digV_dig _ (by omega)]
      omega
theorem dec_head (u : Nat) (h : 0 < u) : (Lib.decDigits u).head? ≠ some 48 := by
  induction u using Nat.strongRecOn with
  | ind u ih =>
    by_cases hu : u < 10
    · rw [Lib.decDigits_one hu]
      simp only [List.head?_cons, ne_eq, Option.some.injEq]
      intro he
      have := digit_of u hu
      rw [he] at this
      simp at this
      omega
    · rw [dec_step u hu]
      have h1 := ih (u / 10) (by omega) (by omega)
      have h2 := dec_ne (u / 10)
      cases hx : Lib.decDigits (u / 10) with
      | nil => exact absurd hx h2
      | cons c r => rw [hx] at h1; simpa using h1
theorem baseL_ten (l : List UInt8) (h : l.head? ≠ some 48 ∨ l.length ≤ 1) : baseL l = (10, l) := by
  unfold baseL
  split
  · rename_i b r
    rcases h with h | h
    · simp at h
    · simp at h
  · rfl
theorem baseL_16 (b : UInt8) (r : List UInt8) (h : b = 120 ∨ b = 88) : baseL (48 :: b :: r) = (16, r) := by
  show (if b = 120 ∨ b = 88 then (16, r) else (8, b :: r)) = _
  rw [if_pos h]
theorem baseL_8 (b : UInt8) (r : List UInt8) (h : ¬ (b = 120 ∨ b = 88)) : baseL (48 :: b :: r) = (8, b :: r) := by
  show (if b = 120 ∨ b = 88 then (16, r) else (8, b :: r)) = _
  rw [if_neg h]
theorem dec_base (u : Nat) : baseL (Lib.decDigits u) = (10, Lib.decDigits u) := by
  by_cases h : u = 0
  · subst h; rw [Lib.decDigits_one (by omega)]; exact baseL_ten _ (.inr (by simp))
  · exact baseL_ten _ (.inl (dec_head u (by omega)))
theorem dec_all (u : Nat) : (Lib.decDigits u).all (fun c => decide (digV c < 10)) = true := by
  have := dec_digits u
  rw [List.all_eq_true] at this ⊢
  intro c hc
  exact decide_eq_true (digV_digitU c (this c hc)).2
theorem numL_dec (u : Nat) : numL (Lib.decDigits u) = some u := by
  unfold numL
  rw [if_neg (dec_ne u), dec_base, if_pos (dec_all u), dec_valB]
theorem dec_inj {u v : Nat} (h : Lib.decDigits u = Lib.decDigits v) : u = v := by
  have := dec_valB u
  rw [h, dec_valB] at this
  exact this.symm
theorem dec_noB (u : Nat) : noB 46 (Lib.decDigits u) := by
  have := dec_digits u
  rw [List.all_eq_true] at this
  intro c hc he
  have := this c hc
  rw [he] at this
  simp [digitU, digitB] at this
theorem decV_dec (n : Nat) (h : n < 256) : decV (Lib.decDigits n) = some n := by
  unfold decV
  cases hx : (List.range 256).find? fun m => decide (Lib.decDigits m = Lib.decDigits n) with
  | none =>
    rw [List.find?_eq_none] at hx
    have := hx n (by simp [h])
    simp at this
  | some m =>
    have := List.find?_some hx
    simp only [decide_eq_true_eq] at this
    rw [dec_inj this]
theorem decV_some {l : List UInt8} {n : Nat} (h : decV l = some n) : n < 256 ∧ l = Lib.decDigits n := by
  unfold decV at h
  have h1 := List.find?_some h
  have h2 := List.mem_of_find?_eq_some h
  simp only [decide_eq_true_eq] at h1
  exact ⟨by simpa using h2, h1.symm⟩
theorem split_fmtI (v : Nat) : splitL 46 (fmtI v) = [Lib.decDigits (v / 16777216), Lib.decDigits (v / 65536 % 256), Lib.decDigits (v / 256 % 256), Lib.decDigits (v % 256)] := by
  unfold fmtI
  refine split_joinL 46 _ (by simp) ?_
  intro a ha
  simp at ha
  rcases ha with rfl | rfl | rfl | rfl <;> exact dec_noB _
theorem parse_fmtI (v : Nat) (h : v < 4294967296) : parseL (fmtI v) = some v := by
  unfold parseL
  rw [split_fmtI]
  unfold four
  simp only [decV_dec _ (show v / 16777216 < 256 by omega), decV_dec _ (show v / 65536 % 256 < 256 by omega), decV_dec _ (show v / 256 % 256 < 256 by omega), decV_dec _ (show v % 256 < 256 by omega), Option.map_some, Option.some.injEq]
  omega
theorem partsL_of {l : List UInt8} {p : List (List UInt8)} (h : splitL 46 l = p) (hl : p.getLast? ≠ some []) : partsL l = p := by
  unfold partsL
  rw [h, if_neg (fun h => hl h.2)]
theorem parts_fmtI (v : Nat) : partsL (fmtI v) = [Lib.decDigits (v / 16777216), Lib.decDigits (v / 65536 % 256), Lib.decDigits (v / 256 % 256), Lib.decDigits (v % 256)] := by
  refine partsL_of (split_fmtI v) ?_
  simp only [List.getLast?_cons_cons, List.getLast?_singleton, ne_eq, Option.some.injEq]
  exact dec_ne _
theorem pn_fmtI (v : Nat) (h : v < 4294967296) : pnL (fmtI v) = some v := by
  unfold pnL
  rw [parts_fmtI, if_neg (by simp)]
  simp only [pnGo, numL_dec]
  rw [if_pos (by omega), if_pos (by omega), if_pos (by omega), if_pos (by omega)]
  simp only [Option.some.injEq]
  omega
theorem lastNum_dec (u : Nat) : lastNum (Lib.decDigits u) = true := by
  unfold lastNum
  rw [dec_digits]
  cases h : Lib.decDigits u with
  | nil => exact absurd h (dec_ne u)
  | cons c r => rfl
theorem numeric_fmtI (v : Nat) : numericL (fmtI v) = true := by
  unfold numericL
  rw [parts_fmtI]
  exact lastNum_dec _
theorem partsL_dot (l : List UInt8) : partsL (l ++ [46]) = splitL 46 l := by
  have h : splitL 46 (l ++ [46]) = splitL 46 l ++ [[]] := splitG_dot 46 l []
  unfold partsL
  rw [h, if_pos ⟨by have := splitL_pos 46 l; simp; omega, by simp⟩]
  simp
theorem four_some {p : List (List UInt8)} {q : Nat × Nat × Nat × Nat} (h : four p = some q) : q.1 < 256 ∧ q.2.1 < 256 ∧ q.2.2.1 < 256 ∧ q.2.2.2 < 256 ∧ p = [Lib.decDigits q.1, Lib.decDigits q.2.1, Lib.decDigits q.2.2.1, Lib.decDigits q.2.2.2] := by
  unfold four at h
  split at h
  · rename_i a b c d
    cases ha : decV a <;> cases hb : decV b <;> cases hc : decV c <;> cases hd : decV d <;> simp only [ha, hb, hc, hd] at h <;> try (cases h; done)
    have h1 := decV_some ha
    have h2 := decV_some hb
    have h3 := decV_some hc
    have h4 := decV_some hd
    simp only [Option.some.injEq] at h
    subst h
    exact ⟨h1.1, h2.1, h3.1, h4.1, by rw [← h1.2, ← h2.2, ← h3.2, ← h4.2]⟩
  · cases h
theorem parseL_some {l : List UInt8} {v : Nat} (h : parseL l = some v) : v < 4294967296 ∧ l = fmtI v := by
  unfold parseL at h
  cases hq : four (splitL 46 l) with
  | none => rw [hq] at h; cases h
  | some q =>
    rw [hq] at h
    simp only [Option.map_some, Option.some.injEq] at h
    obtain ⟨h1, h2, h3, h4, hp⟩ := four_some hq
    refine ⟨by omega, ?_⟩
    rw [← join_splitL 46 l, hp]
    unfold fmtI
    rw [show v / 16777216 = q.1 by omega, show v / 65536 % 256 = q.2.1 by omega, show v / 256 % 256 = q.2.2.1 by omega, show v % 256 = q.2.2.2 by omega]
end

end Go.Proofs.YtdfacgncphmcoaaGreatDoor
