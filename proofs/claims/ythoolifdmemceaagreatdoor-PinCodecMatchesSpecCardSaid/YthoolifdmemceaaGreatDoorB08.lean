/-
How a reader from left to right finds the numbers of an address: no program.
Digits of a number in a base: plain facts, no program.
-/
import Derived.Test.YthoolifdmemceaaGreatDoorB07
import Derived.Lib.Strings
import Derived.Lib.LastIndexByte
namespace Go.Proofs.YthoolifdmemceaaGreatDoor
section
open Go.RowKit

/-- Without a dot at the end. -/
def undot (l : List UInt8) : List UInt8 := if l.getLast? = some 46 then l.dropLast else l
theorem undot_dot (l : List UInt8) : undot (l ++ [46]) = l := by unfold undot; simp
theorem list_dot (l : List UInt8) : (∃ m, l = m ++ [46]) ∨ (l.getLast? ≠ some 46 ∧ undot l = l) := by
  by_cases h : l.getLast? = some 46
  · left
    obtain ⟨m, hm⟩ := List.getLast?_eq_some_iff.1 h
    exact ⟨m, hm⟩
  · right
    exact ⟨h, by unfold undot; rw [if_neg h]⟩
theorem trim_undot (l : List UInt8) : Lib.trimSuffix l [46] = undot l := by
  unfold Lib.trimSuffix Lib.hasSuffix
  rcases list_dot l with ⟨m, rfl⟩ | ⟨h, hu⟩
  · rw [undot_dot]
    have : ([46] : List UInt8).isSuffixOf (m ++ [46]) = true := by
      rw [List.isSuffixOf_iff_suffix]
      exact ⟨m, rfl⟩
    rw [if_pos this]
    simp
  · rw [hu]
    have : ¬ ([46] : List UInt8).isSuffixOf l = true := by
      rw [List.isSuffixOf_iff_suffix]
      rintro ⟨m, rfl⟩
      exact h (by simp)
    rw [if_neg this]
theorem joinL_last (c : UInt8) : ∀ p : List (List UInt8), 1 < p.length → p.getLast? = some [] → (joinL c p).getLast? = some c
  | [], h, _ => by simp at h
  | [_], h, _ => by simp at h
  | [a, b], _, h => by
    simp at h
    subst h
    simp [joinL]
  | a :: b :: d :: r, _, h => by
    have h1 := joinL_last c (b :: d :: r) (by simp) (by simpa using h)
    rw [joinL, List.getLast?_append]
    rw [List.getLast?_cons, h1]
    rfl
theorem parts_undot (l : List UInt8) : partsL l = splitL 46 (undot l) := by
  rcases list_dot l with ⟨m, rfl⟩ | ⟨h, hu⟩
  · rw [partsL_dot, undot_dot]
  · rw [hu]
    unfold partsL
    rw [if_neg]
    rintro ⟨h1, h2⟩
    have := joinL_last 46 _ h1 h2
    rw [join_splitL] at this
    exact h this

/-- A byte's value as a digit, at most 16. -/
def pd (b : UInt8) : Nat := min (digV b) 16
theorem pd_lt (c : UInt8) (b : Nat) (hb : b ≤ 16) : pd c < b ↔ digV c < b := by unfold pd; omega
/-- What a reader finds behind a part. -/
def sfx : Option (List UInt8) → List UInt8
  | none => []
  | some r => 46 :: r
/-- The number whose digits stand at the beginning, limited, and what follows the dot. -/
def scanN (b : Nat) : List UInt8 → Nat → Option (Nat × Option (List UInt8))
  | [], n => some (n, none)
  | c :: r, n => if c = 46 then some (n, some r) else if digV c < b then scanN b r (min (b * n + digV c) 4294967296) else none
theorem sat_step (b v d : Nat) (hb : 1 ≤ b) : min (b * min v 4294967296 + d) 4294967296 = min (v * b + d) 4294967296 := by
  by_cases h : v ≤ 4294967296
  · rw [Nat.min_eq_left h, Nat.mul_comm]
  · rw [Nat.min_eq_right (show 4294967296 ≤ v by omega)]
    have h1 : 1 * 4294967296 ≤ b * 4294967296 := Nat.mul_le_mul_right _ hb
    have h2 : 4294967296 * 1 ≤ v * b := Nat.mul_le_mul (by omega) hb
    omega
theorem scan_part (b : Nat) (hb : 1 ≤ b) (o : Option (List UInt8)) : ∀ (x : List UInt8) (v : Nat), noB 46 x →
    scanN b (x ++ sfx o) (min v 4294967296) = if x.all (fun c => decide (digV c < b)) = true then some (min (valB b v x) 4294967296, o) else none
  | [], v, _ => by
    cases o with
    | none => rfl
    | some r => simp [sfx, scanN, valB]
  | c :: x, v, h => by
    have hc : c ≠ 46 := h c (by simp)
    rw [List.cons_append, scanN, if_neg hc, List.all_cons]
    by_cases hd : digV c < b
    · rw [if_pos hd, sat_step b v _ hb, scan_part b hb o x _ (fun y hy => h y (by simp [hy])), valB]
      simp [hd]
    · rw [if_neg hd]
      simp [hd]
/-- The base of the part at the beginning, and how many bytes stand before its digits. -/
def hexP (l : List UInt8) : Bool := Lib.hasPrefix l [48, 120] || Lib.hasPrefix l [48, 88]
theorem hexP_iff (l : List UInt8) : hexP l = true ↔ ∃ b r, l = 48 :: b :: r ∧ (b = 120 ∨ b = 88) := by
  unfold hexP Lib.hasPrefix
  rw [Bool.or_eq_true, List.isPrefixOf_iff_prefix, List.isPrefixOf_iff_prefix]
  constructor
  · rintro (⟨r, rfl⟩ | ⟨r, rfl⟩)
    · exact ⟨120, r, rfl, .inl rfl⟩
    · exact ⟨88, r, rfl, .inr rfl⟩
  · rintro ⟨b, r, rfl, rfl | rfl⟩
    · exact .inl ⟨r, rfl⟩
    · exact .inr ⟨r, rfl⟩
def notL (l : List UInt8) : Nat × Nat := if hexP l = true then (16, 2) else if l.head? = some 48 then (8, 1) else (10, 0)
theorem notL_facts (o : Option (List UInt8)) (x : List UInt8) (hx : x ≠ []) (hn : noB 46 x) : ∃ b y, (notL (x ++ sfx o)).1 = b ∧ (x ++ sfx o).drop (notL (x ++ sfx o)).2 = y ++ sfx o ∧ 1 ≤ b ∧ noB 46 y ∧
    numL x = if y.all (fun c => decide (digV c < b)) = true then some (valB b 0 y) else none := by
  unfold notL
  by_cases hh : hexP (x ++ sfx o) = true
  · rw [if_pos hh]
    obtain ⟨b, r, e, hb⟩ := (hexP_iff _).1 hh
    cases x with
    | nil => exact absurd rfl hx
    | cons c x =>
      rw [List.cons_append] at e
      injection e with e1 e2
      subst e1
      cases x with
      | nil =>
        rw [List.nil_append] at e2
        cases o with
        | none => cases e2
        | some r' =>
          injection e2 with e3 _
          subst e3
          simp at hb
      | cons d x =>
        rw [List.cons_append] at e2
        injection e2 with e3 e4
        subst e3
        refine ⟨16, x, rfl, rfl, by omega, fun y hy => hn y (by simp [hy]), ?_⟩
        unfold numL
        rw [if_neg (by simp), baseL_16 d x hb]
  · rw [if_neg hh]
    cases x with
    | nil => exact absurd rfl hx
    | cons c x =>
      by_cases hc : c = 48
      · subst hc
        rw [if_pos (by simp)]
        refine ⟨8, x, rfl, rfl, by omega, fun y hy => hn y (by simp [hy]), ?_⟩
        cases x with
        | nil =>
          unfold numL
          rw [if_neg (by simp), baseL_ten _ (.inr (by simp))]
          decide
        | cons d x =>
          have hd : ¬ (d = 120 ∨ d = 88) := fun hd => hh ((hexP_iff _).2 ⟨d, x ++ sfx o, by simp, hd⟩)
          unfold numL
          rw [if_neg (by simp), baseL_8 d x hd]
      · rw [if_neg (by simp [hc])]
        refine ⟨10, c :: x, rfl, rfl, by omega, hn, ?_⟩
        unfold numL
        rw [if_neg (by simp), baseL_ten _ (.inl (by simp [hc]))]
/-- The address that a reader finds who may read m parts more. -/
def pnS : Nat → List UInt8 → Nat → Option Nat
  | 0, _, _ => none
  | m + 1, t, a => if t = [] ∨ t.head? = some 46 then none else
    match scanN (notL t).1 (t.drop (notL t).2) 0 with
    | none => none
    | some (n, none) => if n < 256 ^ (m + 1) then some (a * 256 ^ (m + 1) + n) else none
    | some (n, some r) => if n ≤ 255 then pnS m r (a * 256 + n) else none
def pnR : Nat → List (List UInt8) → Nat → Option Nat
  | 0, _, _ => none
  | _ + 1, [], _ => none
  | m + 1, [x], a => match numL x with
    | none => none
    | some n => if n < 256 ^ (m + 1) then some (a * 256 ^ (m + 1) + n) else none
  | m + 1, x :: y :: r, a => match numL x with
    | none => none
    | some n => if n ≤ 255 then pnR m (y :: r) (a * 256 + n) else none
theorem cut_dot : ∀ t : List UInt8, ∃ x o, t = x ++ sfx o ∧ noB 46 x
  | [] => ⟨[], none, rfl, fun _ h => by simp at h⟩
  | c :: t => by
    by_cases hc : c = 46
    · exact ⟨[], some t, by rw [hc]; rfl, fun _ h => by simp at h⟩
    · obtain ⟨x, o, e, hn⟩ := cut_dot t
      refine ⟨c :: x, o, by rw [e]; rfl, ?_⟩
      intro y hy
      simp at hy
      rcases hy with rfl | hy
      · exact hc
      · exact hn y hy
theorem pow_le4 (m : Nat) (h : m + 1 ≤ 4) : 256 ^ (m + 1) ≤ 4294967296 := by
  have : m = 0 ∨ m = 1 ∨ m = 2 ∨ m = 3 := by omega
  rcases this with rfl | rfl | rfl | rfl <;> decide
theorem pnS_pnR : ∀ (m : Nat) (t : List UInt8) (a : Nat), m ≤ 4 → pnS m t a = pnR m (splitL 46 t) a
  | 0, _, _, _ => rfl
  | m + 1, t, a, hm => by
    obtain ⟨x, o, rfl, hn⟩ := cut_dot t
    have hne : ∀ r, ∃ y ys, splitL 46 r = y :: ys := fun r => by
      cases h : splitL 46 r with
      | nil => exact absurd h (splitG_ne 46 r [])
      | cons y ys => exact ⟨y, ys, rfl⟩
    by_cases hx : x = []
    · subst hx
      have hN : numL [] = none := rfl
      cases o with
      | none =>
        rw [pnS, if_pos (.inl rfl), splitL_one 46 _ (fun _ h => by simp [sfx] at h)]
        rw [show ([] ++ sfx none : List UInt8) = [] from rfl, pnR, hN]
      | some r =>
        rw [pnS, if_pos (.inr rfl), show ([] ++ sfx (some r) : List UInt8) = [] ++ 46 :: r from rfl, splitL_cons 46 [] r hn]
        obtain ⟨y, ys, e⟩ := hne r
        rw [e, pnR, hN]
    · obtain ⟨b, y, e1, e2, hb, hy, e3⟩ := notL_facts o x hx hn
      have hs := scan_part b hb o y 0 hy
      rw [show min 0 4294967296 = 0 from rfl] at hs
      have h0 : ¬ (x ++ sfx o = [] ∨ (x ++ sfx o).head? = some 46) := by
        cases x with
        | nil => exact absurd rfl hx
        | cons c x =>
          have := hn c (by simp)
          simp [this]
      rw [pnS, if_neg h0, e1, e2, hs]
      have hp := pow_le4 m hm
      have hp1 : 256 ≤ 256 ^ (m + 1) := by rw [Nat.pow_succ]; have := Nat.pos_of_ne_zero (show 256 ^ m ≠ 0 by simp); omega
      cases o with
      | none =>
        rw [show x ++ sfx none = x from List.append_nil x, splitL_one 46 x hn, pnR, e3]
        by_cases ha : y.all (fun c => decide (digV c < b)) = true
        · rw [if_pos ha, if_pos ha]
          show (if min (valB b 0 y) 4294967296 < 256 ^ (m + 1) then some (a * 256 ^ (m + 1) + min (valB b 0 y) 4294967296) else none) = if valB b 0 y < 256 ^ (m + 1) then some (a * 256 ^ (m + 1) + valB b 0 y) else none
          by_cases hv : valB b 0 y < 256 ^ (m + 1)
          · rw [if_pos hv, Nat.min_eq_left (by omega), if_pos hv]
          · rw [if_neg hv, if_neg (by omega)]
        · rw [if_neg ha, if_neg ha]
      | some r =>
        rw [show x ++ sfx (some r) = x ++ 46 :: r from rfl, splitL_cons 46 x r hn]
        obtain ⟨z, zs, e⟩ := hne r
        have ih := pnS_pnR m r (a * 256 + valB b 0 y) (by omega)
        rw [e] at ih ⊢
        rw [pnR, e3]
        by_cases ha : y.all (fun c => decide (digV c < b)) = true
        · rw [if_pos ha, if_pos ha]
          show (if min (valB b 0 y) 4294967296 ≤ 255 then pnS m r (a * 256 + min (valB b 0 y) 4294967296) else none) = if valB b 0 y ≤ 255 then pnR m (z :: zs) (a * 256 + valB b 0 y) else none
          by_cases hv : valB b 0 y ≤ 255
          · rw [if_pos hv, Nat.min_eq_left (by omega), if_pos hv, ih]
          · rw [if_neg hv, if_neg (by omega)]
        · rw [if_neg ha, if_neg ha]
theorem pnGo_pnR : ∀ (p : List (List UInt8)) (i a : Nat), p ≠ [] → i ≤ 4 → (if 4 < i + p.length then none else pnGo p i (a * 256 ^ (4 - i))) = pnR (4 - i) p a
  | [], _, _, h, _ => absurd rfl h
  | [x], i, a, _, hi => by
    by_cases h4 : i = 4
    · subst h4
      rfl
    · obtain ⟨m, hm⟩ : ∃ m, 4 - i = m + 1 := ⟨3 - i, by omega⟩
      rw [if_neg (by simp; omega), hm, pnGo, pnR, hm]
      all_goals (cases numL x <;> rfl)
  | x :: y :: r, i, a, _, hi => by
    by_cases h4 : i = 4
    · subst h4
      rw [if_pos (by simp), Nat.sub_self, pnR]
    · obtain ⟨m, hm⟩ : ∃ m, 4 - i = m + 1 := ⟨3 - i, by omega⟩
      have hm3 : 3 - i = m := by omega
      have hm4 : 4 - (i + 1) = m := by omega
      rw [hm, pnGo, pnR, hm3]
      cases hx : numL x with
      | none => simp
      | some n =>
        show (if 4 < i + (x :: y :: r).length then none else if n ≤ 255 then pnGo (y :: r) (i + 1) (a * 256 ^ (m + 1) + n * 256 ^ m) else none) = if n ≤ 255 then pnR m (y :: r) (a * 256 + n) else none
        by_cases hn : n ≤ 255
        · have ih := pnGo_pnR (y :: r) (i + 1) (a * 256 + n) (by simp) (by omega)
          rw [hm4] at ih
          rw [if_pos hn, if_pos hn, ← ih, show a * 256 ^ (m + 1) + n * 256 ^ m = (a * 256 + n) * 256 ^ m by rw [Nat.pow_succ, Nat.add_mul, Nat.mul_assoc, Nat.mul_comm 256]]
          have : i + (x :: y :: r).length = i + 1 + (y :: r).length := by simp; omega
          rw [this]
        · rw [if_neg hn, if_neg hn]
          simp
theorem pnL_pnS (l : List UInt8) : pnL l = pnS 4 (undot l) 0 := by
  rw [pnS_pnR 4 _ 0 (Nat.le_refl _), ← parts_undot]
  have hne : partsL l ≠ [] := by rw [parts_undot]; exact splitG_ne 46 _ []
  have := pnGo_pnR (partsL l) 0 0 hne (by omega)
  rw [Nat.zero_add, Nat.zero_mul] at this
  exact this
theorem pnS_range : ∀ (m : Nat) (t : List UInt8) (a v : Nat), m ≤ 4 → a < 256 ^ (4 - m) → pnS m t a = some v → v < 4294967296
  | 0, _, _, _, _, _, h => by cases h
  | m + 1, t, a, v, hm, ha, h => by
    rw [pnS] at h
    split at h
    · cases h
    · split at h
      · cases h
      · rename_i n _
        split at h
        · rename_i hn
          injection h with h
          have e : 256 ^ (4 - (m + 1)) * 256 ^ (m + 1) = 4294967296 := by rw [← Nat.pow_add, show 4 - (m + 1) + (m + 1) = 4 by omega]
          have : (a + 1) * 256 ^ (m + 1) ≤ 256 ^ (4 - (m + 1)) * 256 ^ (m + 1) := Nat.mul_le_mul_right _ ha
          rw [e, Nat.add_mul] at this
          omega
        · cases h
      · rename_i n r _
        split at h
        · refine pnS_range m r _ v (by omega) ?_ h
          have e : 256 ^ (4 - m) = 256 ^ (4 - (m + 1)) * 256 := by rw [show 4 - m = 4 - (m + 1) + 1 by omega, Nat.pow_succ]
          rw [e]
          have : (a + 1) * 256 ≤ 256 ^ (4 - (m + 1)) * 256 := Nat.mul_le_mul_right _ ha
          omega
        · cases h
theorem pnL_range {l : List UInt8} {v : Nat} (h : pnL l = some v) : v < 4294967296 := by
  rw [pnL_pnS] at h
  exact pnS_range 4 _ 0 v (Nat.le_refl _) (by decide) h

/-- The last part. -/
theorem split_last (x : List UInt8) (hn : noB 46 x) : ∀ (p cur : List UInt8), (splitG 46 (p ++ 46 :: x) cur).getLastD [] = x
  | [], cur => by
    rw [List.nil_append, splitG, if_pos rfl, splitG_last 46 x [] hn]
    simp
  | c :: p, cur => by
    rw [List.cons_append, splitG]
    split
    · have := split_last x hn p []
      cases h : splitG 46 (p ++ 46 :: x) [] with
      | nil => exact absurd h (splitG_ne 46 _ _)
      | cons a q => rw [h] at this; simpa [List.getLastD] using this
    · exact split_last x hn p _
theorem last_none (t : List UInt8) (h : noB 46 t) : (splitL 46 t).getLastD [] = t := by rw [splitL_one 46 t h]; rfl
theorem last_cut (t : List UInt8) (i : Nat) (hi : i < t.length) (h : t[i] = 46) (hn : noB 46 (t.drop (i + 1))) : (splitL 46 t).getLastD [] = t.drop (i + 1) := by
  have e : t = t.take i ++ 46 :: t.drop (i + 1) := by
    rw [← h, List.getElem_cons_drop, List.take_append_drop]
  have := split_last (t.drop (i + 1)) hn (t.take i) []
  rw [← e] at this
  exact this
theorem last_index (s : ByteArray) : ∃ i : Nat, Lib.lastIndexByte s 46 + 1 = (i : Int) ∧ i ≤ s.size ∧ (splitL 46 (ls s)).getLastD [] = (ls s).drop i := by
  have hg : ∀ j (hj : j < s.size), ((s.data[j]!).toNat : Int) = 46 ↔ (ls s)[j]'(by rw [ls_length]; exact hj) = 46 := by
    intro j hj
    have hj' : j < s.data.size := hj
    have e : s.data[j]! = (ls s)[j]'(by rw [ls_length]; exact hj) := by
      rw [getElem!_pos s.data j hj']
      rfl
    rw [e]
    constructor
    · intro h
      exact UInt8.toNat_inj.1 (by rw [show (46 : UInt8).toNat = 46 from rfl]; omega)
    · intro h
      rw [h]
      rfl
  rcases Lib.lastIndexByte_spec s 46 with ⟨e, hn⟩ | ⟨i, hi, e, hc, hn⟩
  · refine ⟨0, by omega, Nat.zero_le _, ?_⟩
    rw [List.drop_zero]
    refine last_none _ ?_
    intro c hc h46
    obtain ⟨j, hj, rfl⟩ := List.getElem_of_mem hc
    rw [ls_length] at hj
    exact hn j hj ((hg j hj).2 h46)
  · refine ⟨i + 1, by omega, by omega, ?_⟩
    refine last_cut _ i (by rw [ls_length]; exact hi) ((hg i hi).1 hc) ?_
    intro c hc h46
    obtain ⟨j, hj, rfl⟩ := List.getElem_of_mem hc
    rw [List.length_drop, ls_length] at hj
    rw [List.getElem_drop] at h46
    exact hn (i + 1 + j) (by omega) (by omega) ((hg _ (by omega)).2 h46)
theorem digitU_digV (c : UInt8) : digitU c = decide (digV c < 10) := by
  by_cases h : digitU c = true
  · rw [h, decide_eq_true (digV_digitU c h).2]
  · have h2 : ¬ (48 ≤ c.toNat ∧ c.toNat ≤ 57) := fun k => h ((digitU_iff c).2 (by omega))
    rw [Bool.not_eq_true] at h
    rw [h]
    symm
    refine decide_eq_false ?_
    unfold digV
    rw [if_neg h2]
    split
    · omega
    · split <;> omega
theorem lastNum_eq (x : List UInt8) : lastNum x = if hexP x = true then (x.drop 2).all (fun c => decide (digV c < 16)) else (!x.isEmpty && x.all (fun c => decide (digV c < 10))) := by
  have hall : x.all digitU = x.all (fun c => decide (digV c < 10)) := by
    congr 1
    funext c
    exact digitU_digV c
  by_cases hh : hexP x = true
  · rw [if_pos hh]
    obtain ⟨b, r, rfl, hb⟩ := (hexP_iff _).1 hh
    have hd : digitU b = false := by rcases hb with rfl | rfl <;> decide
    unfold lastNum
    have h1 : (48 :: b :: r).all digitU = false := by simp [hd]
    have h2 : (((48 :: b :: r).getD 1 0 == 120) || ((48 :: b :: r).getD 1 0 == 88)) = true := by
      rcases hb with rfl | rfl <;> rfl
    have h3 : numL (48 :: b :: r) = if r.all (fun c => decide (digV c < 16)) = true then some (valB 16 0 r) else none := by
      unfold numL
      rw [if_neg (by simp), baseL_16 b r hb]
    rw [h1, h2, h3, Bool.and_true, Bool.false_and, Bool.false_or]
    by_cases ha : r.all (fun c => decide (digV c < 16)) = true
    · rw [if_pos ha]
      simpa using ha
    · rw [if_neg ha]
      simpa using ha
  · rw [if_neg hh]
    unfold lastNum
    rw [hall, Bool.and_comm (!x.isEmpty)]
    have h2 : ((numL x).isSome && decide (2 ≤ x.length) && (x.getD 1 0 == 120 || x.getD 1 0 == 88)) = false := by
      match x with
      | [] => rfl
      | [c] => simp
      | c :: b :: r =>
        by_cases hb : b = 120 ∨ b = 88
        · have hc : c ≠ 48 := fun h => hh ((hexP_iff _).2 ⟨b, r, by rw [h], hb⟩)
          have hd : ¬ digV b < 10 := by rcases hb with rfl | rfl <;> decide
          have : numL (c :: b :: r) = none := by
            unfold numL
            rw [if_neg (by simp), baseL_ten _ (.inl (by simp [hc])), if_neg]
            simp [hd]
          rw [this]
          rfl
        · simp only [not_or] at hb
          have : ((c :: b :: r).getD 1 0 == 120 || (c :: b :: r).getD 1 0 == 88) = false := by simp [hb.1, hb.2]
          rw [this, Bool.and_false]
    rw [h2, Bool.or_false]
theorem numeric_last (l : List UInt8) : numericL l = lastNum ((splitL 46 (undot l)).getLastD []) := by
  unfold numericL
  rw [parts_undot]
theorem parse_pn (l : List UInt8) : parseL l = match pnL l with
    | none => none
    | some v => if fmtI v = l then some v else none := by
  cases hp : pnL l with
  | none =>
    cases hq : parseL l with
    | none => rfl
    | some v =>
      obtain ⟨hv, rfl⟩ := parseL_some hq
      rw [pn_fmtI v hv] at hp
      cases hp
  | some v =>
    show _ = if fmtI v = l then some v else none
    by_cases hf : fmtI v = l
    · rw [if_pos hf]
      have := parse_fmtI v (pnL_range hp)
      rw [hf] at this
      exact this
    · rw [if_neg hf]
      cases hq : parseL l with
      | none => rfl
      | some u =>
        obtain ⟨hu, rfl⟩ := parseL_some hq
        rw [pn_fmtI u hu] at hp
        injection hp with hp
        subst hp
        exact absurd rfl hf
/-- The text of the first i numbers. -/
def fmtF (v : Nat) : Nat → List UInt8
  | 0 => []
  | i + 1 => fmtF v i ++ ((if i = 0 then [] else [46]) ++ Lib.decDigits (v / 256 ^ (3 - i) % 256))
theorem fmtF_all (v : Nat) (h : v < 4294967296) : fmtF v 4 = fmtI v := by
  unfold fmtI
  simp only [fmtF, joinL]
  rw [show v / 256 ^ (3 - 0) % 256 = v / 16777216 by rw [show 256 ^ (3 - 0) = 16777216 from rfl]; omega, show 256 ^ (3 - 1) = 65536 from rfl, show 256 ^ (3 - 2) = 256 from rfl, show v / 256 ^ (3 - 3) % 256 = v % 256 by simp]
  simp
theorem dec_len3 (u : Nat) (h : u < 256) : (Lib.decDigits u).length ≤ 3 := by
  by_cases h1 : u < 10
  · rw [Lib.decDigits_one h1]; simp
  · rw [dec_step u h1, List.length_append]
    by_cases h2 : u / 10 < 10
    · rw [Lib.decDigits_one h2]; simp
    · rw [dec_step _ h2, List.length_append, Lib.decDigits_one (by omega)]; simp
theorem fmtF_length (v : Nat) : ∀ i, (fmtF v i).length ≤ 4 * i
  | 0 => by simp [fmtF]
  | i + 1 => by
    have h1 := fmtF_length v i
    have h2 := dec_len3 (v / 256 ^ (3 - i) % 256) (by omega)
    rw [fmtF, List.length_append, List.length_append]
    split <;> simp <;> omega
end

section
open Go.RowKit

/-- Digits in a base. -/
def hexc (d : Nat) : UInt8 := if d < 10 then UInt8.ofNat (48 + d) else UInt8.ofNat (87 + d)
theorem hexc_fin : ∀ d : Fin 16, digV (hexc d.val) = d.val ∧ hexc d.val ≠ 46 ∧ lowU (hexc d.val) = hexc d.val ∧ hexc d.val ≠ 120 ∧ hexc d.val ≠ 88 ∧ (hexc d.val = 48 → d.val = 0) := by decide +kernel
theorem hexc_of {d : Nat} (h : d < 16) : digV (hexc d) = d ∧ hexc d ≠ 46 ∧ lowU (hexc d) = hexc d ∧ hexc d ≠ 120 ∧ hexc d ≠ 88 ∧ (hexc d = 48 → d = 0) := hexc_fin ⟨d, h⟩
def digsF (b : Nat) : Nat → Nat → List UInt8
  | 0, m => [hexc (m % b)]
  | f + 1, m => if m < b then [hexc m] else digsF b f (m / b) ++ [hexc (m % b)]
/-- The digits of a number below 2^40 in a base of at least 2. -/
def digsB (b m : Nat) : List UInt8 := digsF b 40 m
theorem digsF_more (b : Nat) (hb : 2 ≤ b) : ∀ f m, m < 2 ^ f → digsF b (f + 1) m = digsF b f m
  | 0, m, h => by
    have hm : m = 0 := by simpa using h
    subst hm
    unfold digsF
    rw [if_pos (by omega), Nat.zero_mod]
  | f + 1, m, h => by
    unfold digsF
    by_cases hm : m < b
    · rw [if_pos hm, if_pos hm]
    · rw [if_neg hm, if_neg hm, digsF_more b hb f (m / b)]
      have : m / b ≤ m / 2 := Nat.div_le_div_left hb (by omega)
      rw [Nat.pow_succ] at h
      omega
theorem digsB_small {b m : Nat} (h : m < b) : digsB b m = [hexc m] := by
  unfold digsB digsF
  rw [if_pos h]
theorem digsB_step {b m : Nat} (hb : 2 ≤ b) (hm : m < 1099511627776) (h : ¬ m < b) : digsB b m = digsB b (m / b) ++ [hexc (m % b)] := by
  have h1 : digsB b m = digsF b 39 (m / b) ++ [hexc (m % b)] := by
    show digsF b (39 + 1) m = _
    rw [digsF, if_neg h]
  have h2 : digsF b 40 (m / b) = digsF b 39 (m / b) := digsF_more b hb 39 (m / b) (by
    have : m / b ≤ m / 2 := Nat.div_le_div_left hb (by omega)
    have e : (2 : Nat) ^ 39 = 549755813888 := by decide
    omega)
  rw [h1]
  unfold digsB
  rw [h2]
theorem digs_ind {b : Nat} (hb : 2 ≤ b) (C : Nat → List UInt8 → Prop) (h0 : ∀ m, m < b → C m [hexc m]) (h1 : ∀ m, m < 1099511627776 → ¬ m < b → C (m / b) (digsB b (m / b)) → C m (digsB b (m / b) ++ [hexc (m % b)])) :
    ∀ m, m < 1099511627776 → C m (digsB b m) := by
  intro m
  induction m using Nat.strongRecOn with
  | ind m ih =>
    intro hm
    by_cases h : m < b
    · rw [digsB_small h]; exact h0 m h
    · rw [digsB_step hb hm h]
      have hlt : m / b < m := Nat.div_lt_self (by omega) hb
      exact h1 m hm h (ih (m / b) hlt (by omega))
theorem digs_ne {b : Nat} (hb : 2 ≤ b) (m : Nat) (hm : m < 1099511627776) : digsB b m ≠ [] :=
  digs_ind hb (fun _ l => l ≠ []) (fun _ _ => by simp) (fun _ _ _ _ => by simp) m hm
theorem digs_val {b : Nat} (hb : 2 ≤ b) (hb2 : b ≤ 16) (m : Nat) (hm : m < 1099511627776) : valB b 0 (digsB b m) = m := by
  refine digs_ind hb (fun m l => valB b 0 l = m) (fun m h => ?_) (fun m _ h ih => ?_) m hm
  · simp [valB, (hexc_of (show m < 16 by omega)).1]
  · have hlt : m % b < b := Nat.mod_lt _ (by omega)
    rw [valB_append, ih, valB, valB, (hexc_of (show m % b < 16 by omega)).1]
    exact Nat.div_add_mod' m b
theorem digs_all {b : Nat} (hb : 2 ≤ b) (hb2 : b ≤ 16) (p : UInt8 → Bool) (hp : ∀ d, d < b → p (hexc d) = true) (m : Nat) (hm : m < 1099511627776) : (digsB b m).all p = true := by
  refine digs_ind hb (fun m l => l.all p = true) (fun m h => ?_) (fun m _ h ih => ?_) m hm
  · simp [hp m h]
  · rw [List.all_append, ih]; simp [hp (m % b) (Nat.mod_lt _ (by omega))]
theorem digs_head {b : Nat} (hb : 2 ≤ b) (hb2 : b ≤ 16) (m : Nat) (hm : m < 1099511627776) (h0 : 0 < m) : (digsB b m).head? ≠ some 48 := by
  have key : ∀ m, m < 1099511627776 → (0 < m → (digsB b m).head? ≠ some 48) := by
    refine digs_ind hb (fun m l => 0 < m → l.head? ≠ some 48) (fun m h h0 => ?_) (fun m hm h ih h0 => ?_)
    · simp only [List.head?_cons, ne_eq, Option.some.injEq]
      intro e
      have := (hexc_of (show m < 16 by omega)).2.2.2.2.2 e
      omega
    · have h1 := ih (Nat.div_pos (by omega) (by omega))
      have h2 := digs_ne hb (m / b) (by have := Nat.div_le_self m b; omega)
      cases hx : digsB b (m / b) with
      | nil => exact absurd hx h2
      | cons c r => rw [hx] at h1; simpa using h1
  exact key m hm h0
theorem digs_length {b : Nat} (hb : 8 ≤ b) : ∀ (k m : Nat), m < 1099511627776 → m < 8 ^ (k + 1) → (digsB b m).length ≤ k + 1
  | 0, m, hm, h => by
    rw [digsB_small (by simp at h; omega)]; simp
  | k + 1, m, hm, h => by
    by_cases hs : m < b
    · rw [digsB_small hs]; simp
    · rw [digsB_step (by omega) hm hs, List.length_append]
      have h1 : m / b ≤ m / 8 := Nat.div_le_div_left hb (by omega)
      have h2 : m / b < 8 ^ (k + 1) := by rw [Nat.pow_succ] at h; omega
      have := digs_length hb k (m / b) (by have := Nat.div_le_self m b; omega) h2
      simp; omega

theorem low_digs (m : Nat) (hm : m < 1099511627776) : lowL (digsB 16 m) = digsB 16 m := by
  have h := digs_all (b := 16) (by omega) (by omega) (fun c => decide (lowU c = c)) (fun d hd => decide_eq_true (hexc_of hd).2.2.1) m hm
  rw [List.all_eq_true] at h
  exact (List.map_congr_left (fun c hc => of_decide_eq_true (h c hc))).trans (List.map_id' _)
theorem digs_free {b : Nat} (hb : 2 ≤ b) (hb2 : b ≤ 16) (m : Nat) (hm : m < 1099511627776) : noB 46 (digsB b m) := by
  have h := digs_all hb hb2 (fun c => decide (c ≠ 46)) (fun d hd => decide_eq_true (hexc_of (by omega)).2.1) m hm
  rw [List.all_eq_true] at h
  intro c hc
  exact of_decide_eq_true (h c hc)
theorem digs_dig {b : Nat} (hb : 2 ≤ b) (hb2 : b ≤ 16) (m : Nat) (hm : m < 1099511627776) : (digsB b m).all (fun c => decide (digV c < b)) = true :=
  digs_all hb hb2 _ (fun d hd => decide_eq_true (by rw [(hexc_of (by omega)).1]; exact hd)) m hm
theorem hexc_digit : ∀ d : Fin 10, digitU (hexc d.val) = true := by decide +kernel
theorem digs_digitU {b : Nat} (hb : 2 ≤ b) (hb2 : b ≤ 10) (m : Nat) (hm : m < 1099511627776) : (digsB b m).all digitU = true :=
  digs_all hb (by omega) _ (fun d hd => hexc_digit ⟨d, by omega⟩) m hm
end

end Go.Proofs.YthoolifdmemceaaGreatDoor
