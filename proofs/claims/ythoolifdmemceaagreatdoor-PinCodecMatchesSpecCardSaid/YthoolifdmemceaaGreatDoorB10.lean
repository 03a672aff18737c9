/-
Hosts in plain words: percent signs, names, what parsing answers, the text, and their laws. No program.
Superdomains and covering in plain words, and their laws. No program.
Slices of numbers in memory.
What decoding answers, in memory.
What every walk of a statement ends in. No program.
What is asked of package punycode's functions, in plain words.
The two tables of unicode/utf8 lie in the world; what is made beside them leaves them there.
-/
import Derived.Test.YthoolifdmemceaaGreatDoorB07
import Derived.Test.YthoolifdmemceaaGreatDoorB08
import Derived.Test.YthoolifdmemceaaGreatDoorB09
import Derived.Test.YthoolifdmemceaaGreatDoorRows
import Derived.Test.YthoolifdmemceaaGreatDoorB02
import Derived.Test.YthoolifdmemceaaGreatDoorB05
import Derived.Below
import Derived.Test.YthoolifdmemceaaGreatDoorB00
import Derived.Shelf.Unicode.DecodeSlow
namespace Go.Proofs.YthoolifdmemceaaGreatDoor
section
open Go.RowKit

/-- A host. -/
structure Hv where
  kind : Int
  name : List UInt8
  v4 : Nat
  v6 : List Nat
def z8 : List Nat := zerosN 8
def hv0 : Hv := ⟨0, [], 0, z8⟩
def hvD (n : List UInt8) : Hv := ⟨1, n, 0, z8⟩
def hv4 (v : Nat) : Hv := ⟨2, [], v, z8⟩
def hv6 (g : List Nat) : Hv := ⟨3, [], 0, g⟩
def Hv.Wf (h : Hv) : Prop := h.v4 < 4294967296 ∧ h.v6.length = 8 ∧ G16 h.v6

/-- Percent signs with two digits are replaced. -/
def pctGo : Nat → List UInt8 → Option (List UInt8)
  | _, [] => some []
  | 0, _ :: _ => none
  | f + 1, b :: r => if b ≠ 37 then (pctGo f r).map (b :: ·)
    else if 2 ≤ r.length ∧ digV (r.getD 0 0) < 16 ∧ digV (r.getD 1 0) < 16 then (pctGo f (r.drop 2)).map (UInt8.ofNat (16 * digV (r.getD 0 0) + digV (r.getD 1 0)) :: ·) else none
def pctL (l : List UInt8) : Option (List UInt8) := pctGo l.length l
theorem pctGo_fuel : ∀ (f g : Nat) (l : List UInt8), l.length ≤ f → l.length ≤ g → pctGo f l = pctGo g l
  | f, g, [], _, _ => by cases f <;> cases g <;> rfl
  | 0, g, b :: l, h, _ => by simp at h
  | f, 0, b :: l, _, h => by simp at h
  | f + 1, g + 1, b :: l, hf, hg => by
    rw [pctGo, pctGo]
    simp only [List.length_cons] at hf hg
    rw [pctGo_fuel f g l (by omega) (by omega), pctGo_fuel f g (l.drop 2) (by rw [List.length_drop]; omega) (by rw [List.length_drop]; omega)]
theorem pctL_nil : pctL [] = some [] := rfl
theorem pctL_cons (b : UInt8) (r : List UInt8) (h : b ≠ 37) : pctL (b :: r) = (pctL r).map (b :: ·) := by
  unfold pctL
  rw [List.length_cons, pctGo, if_pos h]
theorem pctL_pct (x y : UInt8) (t : List UInt8) (hx : digV x < 16) (hy : digV y < 16) : pctL (37 :: x :: y :: t) = (pctL t).map (UInt8.ofNat (16 * digV x + digV y) :: ·) := by
  unfold pctL
  rw [List.length_cons, pctGo, if_neg (by simp), if_pos ⟨by simp, hx, hy⟩]
  rw [show (x :: y :: t).drop 2 = t from rfl, pctGo_fuel (x :: y :: t).length t.length t (by simp; omega) (Nat.le_refl _)]
  rfl
theorem pctL_bad (r : List UInt8) (h : ¬ (2 ≤ r.length ∧ digV (r.getD 0 0) < 16 ∧ digV (r.getD 1 0) < 16)) : pctL (37 :: r) = none := by
  unfold pctL
  rw [List.length_cons, pctGo, if_neg (by simp), if_neg h]
theorem pctL_self : ∀ (l : List UInt8), (∀ b ∈ l, b ≠ 37) → pctL l = some l
  | [], _ => rfl
  | b :: l, h => by rw [pctL_cons b l (h b (by simp)), pctL_self l (fun c hc => h c (by simp [hc]))]; rfl

/-- The canonical forms of labels, or the first error. -/
def namesGo : List (List UInt8) → Nat × List (List UInt8)
  | [] => (0, [])
  | l :: r => if (toA l).1 = 0 then (if (namesGo r).1 = 0 then (0, (toA l).2 :: (namesGo r).2) else ((namesGo r).1, [])) else ((toA l).1, [])
theorem names_low : ∀ p : List (List UInt8), namesGo (p.map lowL) = namesGo p
  | [] => rfl
  | l :: r => by rw [List.map_cons, namesGo, namesGo, toA_low, names_low r]
theorem names_self : ∀ p : List (List UInt8), (∀ x ∈ p, labL x = true) → namesGo p = (0, p)
  | [], _ => rfl
  | l :: r, h => by rw [namesGo, toA_lab (h l (by simp)), names_self r (fun x hx => h x (by simp [hx]))]; rfl
theorem names_lab : ∀ (p q : List (List UInt8)), namesGo p = (0, q) → (∀ x ∈ q, labL x = true) ∧ q.length = p.length
  | [], q, h => by
    obtain ⟨_, rfl⟩ := Prod.mk.inj h
    exact ⟨by simp, rfl⟩
  | l :: r, q, h => by
    rw [namesGo] at h
    split at h
    · rename_i h0
      split at h
      · rename_i h1
        obtain ⟨_, rfl⟩ := Prod.mk.inj h
        obtain ⟨i1, i2⟩ := names_lab r (namesGo r).2 (by rw [← h1])
        refine ⟨?_, by rw [List.length_cons, i2, List.length_cons]⟩
        intro x hx
        rcases List.mem_cons.1 hx with rfl | hx
        · rcases toA_cases l with ⟨_, h2⟩ | ⟨h2, _⟩
          · exact h2
          · exact absurd h0 h2
        · exact i1 x hx
      · rename_i h1
        obtain ⟨h2, _⟩ := Prod.mk.inj h
        exact absurd h2 h1
    · rename_i h0
      obtain ⟨h2, _⟩ := Prod.mk.inj h
      exact absurd h2 h0

/-- A canonical domain name. -/
def vnL (n : List UInt8) : Bool := decide (n ≠ []) && decide (n.length ≤ 253) && !numericL n && (splitL 46 n).all labL
structure Vn (n : List UInt8) : Prop where
  ne : n ≠ []
  len : n.length ≤ 253
  num : numericL n = false
  lab : ∀ x ∈ splitL 46 n, labL x = true
theorem vn_iff (n : List UInt8) : vnL n = true ↔ Vn n := by
  unfold vnL
  simp only [Bool.and_eq_true, decide_eq_true_eq, Bool.not_eq_true', List.all_eq_true]
  exact ⟨fun ⟨⟨⟨a, b⟩, c⟩, d⟩ => ⟨a, b, c, d⟩, fun h => ⟨⟨⟨h.ne, h.len⟩, h.num⟩, h.lab⟩⟩
theorem lab_okN {l : List UInt8} (h : labL l = true) : ∀ b ∈ l, okN b.toNat = true := by
  unfold labL at h
  simp only [Bool.and_eq_true] at h
  exact fun b hb => List.all_eq_true.1 h.1.2 b hb
theorem lab_ne {l : List UInt8} (h : labL l = true) : l ≠ [] := by
  rintro rfl
  cases h
theorem okN_not {b : UInt8} (h : okN b.toNat = true) : b ≠ 37 ∧ b ≠ 46 ∧ b ≠ 91 ∧ b ≠ 93 := by
  unfold okN at h
  simp only [Bool.or_eq_true, Bool.and_eq_true, decide_eq_true_eq, beq_iff_eq] at h
  refine ⟨?_, ?_, ?_, ?_⟩ <;> (rintro rfl; revert h; decide)
theorem mem_joinL (c : UInt8) : ∀ (p : List (List UInt8)) (b : UInt8), b ∈ joinL c p → b = c ∨ ∃ x ∈ p, b ∈ x
  | [], b, h => by cases h
  | [a], b, h => .inr ⟨a, by simp, h⟩
  | a :: d :: r, b, h => by
    rw [joinL, List.mem_append, List.mem_cons] at h
    rcases h with h | h | h
    · exact .inr ⟨a, by simp, h⟩
    · exact .inl h
    · rcases mem_joinL c (d :: r) b h with h | ⟨x, hx, hb⟩
      · exact .inl h
      · exact .inr ⟨x, by simp at hx ⊢; exact .inr hx, hb⟩
theorem labs_noB {p : List (List UInt8)} (h : ∀ x ∈ p, labL x = true) : ∀ x ∈ p, noB 46 x := fun x hx b hb => (okN_not (lab_okN (h x hx) b hb)).2.1
theorem labs_bytes {p : List (List UInt8)} (h : ∀ x ∈ p, labL x = true) : ∀ b ∈ joinL 46 p, b = 46 ∨ okN b.toNat = true := by
  intro b hb
  rcases mem_joinL 46 p b hb with hb | ⟨x, hx, hb⟩
  · exact .inl hb
  · exact .inr (lab_okN (h x hx) b hb)
theorem Vn.bytes {n : List UInt8} (h : Vn n) : ∀ b ∈ n, b = 46 ∨ okN b.toNat = true := by
  have := labs_bytes h.lab
  rwa [join_splitL] at this
theorem Vn.byte_not {n : List UInt8} (h : Vn n) : ∀ b ∈ n, b ≠ 37 ∧ b ≠ 91 ∧ b ≠ 93 := by
  intro b hb
  rcases h.bytes b hb with rfl | hb
  · decide
  · exact ⟨(okN_not hb).1, (okN_not hb).2.2.1, (okN_not hb).2.2.2⟩
theorem Vn.low {n : List UInt8} (h : Vn n) : ∀ b ∈ n, lowU b = b ∧ b.toNat < 128 := by
  intro b hb
  rcases h.bytes b hb with rfl | hb
  · exact ⟨by decide, by decide⟩
  · have := okN_ascii hb
    exact ⟨lowU_small (by omega), this.1⟩
theorem split_dot_lab {m : List UInt8} (h : ∀ x ∈ splitL 46 (m ++ [46]), labL x = true) : False := by
  have : splitL 46 (m ++ [46]) = splitL 46 m ++ [[]] := splitG_dot 46 m []
  rw [this] at h
  exact lab_ne (h [] (by simp)) rfl
theorem Vn.last {n : List UInt8} (h : Vn n) : n.getLast? ≠ some 46 := by
  intro hl
  obtain ⟨m, rfl⟩ := List.getLast?_eq_some_iff.1 hl
  exact split_dot_lab h.lab
theorem undot_self {n : List UInt8} (h : n.getLast? ≠ some 46) : undot n = n := by unfold undot; rw [if_neg h]
theorem vn_join {q : List (List UInt8)} (h : ∀ x ∈ q, labL x = true) (hq : q ≠ []) (hl : (joinL 46 q).length ≤ 253) (hn : numericL (joinL 46 q) = false) : Vn (joinL 46 q) := by
  refine ⟨?_, hl, hn, ?_⟩
  · cases q with
    | nil => exact absurd rfl hq
    | cons a r =>
      have ha := lab_ne (h a (by simp))
      cases r with
      | nil => exact ha
      | cons b r => rw [joinL]; simp
  · rw [split_joinL 46 q hq (labs_noB h)]
    exact h

/-- What parsing answers. -/
def parseD (s : List UInt8) : Nat × Hv :=
  if numericL s = true then (match pnL s with
    | none => (14, hv0)
    | some v => (0, hv4 v))
  else if (namesGo (splitL 46 s)).1 = 0 then
    (if 253 < (joinL 46 (namesGo (splitL 46 s)).2).length then (3, hv0) else if numericL (joinL 46 (namesGo (splitL 46 s)).2) = true then (14, hv0) else (0, hvD (joinL 46 (namesGo (splitL 46 s)).2)))
  else ((namesGo (splitL 46 s)).1, hv0)
def parse6H (raw : List UInt8) : Nat × Hv := if raw.getLast? ≠ some 93 ∨ raw.length < 2 then (14, hv0) else match parse6 ((raw.drop 1).dropLast) with
  | none => (14, hv0)
  | some g => (0, hv6 g)
def parseH (raw : List UInt8) : Nat × Hv :=
  if 1024 < raw.length then (3, hv0)
  else if raw.head? = some 91 then parse6H raw
  else match pctL raw with
    | none => (14, hv0)
    | some s => parseD (undot s)
def validH (h : Hv) : Bool := if h.kind = 1 then vnL h.name && h.v4 == 0 && h.v6 == z8 else if h.kind = 2 then h.name.isEmpty && h.v6 == z8 else if h.kind = 3 then h.name.isEmpty && h.v4 == 0 else false
def fmtT (h : Hv) : List UInt8 := if h.kind = 1 then h.name else if h.kind = 2 then fmtI h.v4 else 91 :: (fmt6 h.v6 ++ [93])
def fmtH (h : Hv) : List UInt8 := if validH h = true then fmtT h else []

/-! ### small letters do not matter for numbers -/
theorem digV_low (b : UInt8) : digV (lowU b) = digV b := by
  have key : ∀ n : Fin 256, digV (lowU (UInt8.ofNat n.val)) = digV (UInt8.ofNat n.val) := by decide +kernel
  have := key ⟨b.toNat, b.toNat_lt⟩
  simpa using this
theorem digitU_low (b : UInt8) : digitU (lowU b) = digitU b := by
  have key : ∀ n : Fin 256, digitU (lowU (UInt8.ofNat n.val)) = digitU (UInt8.ofNat n.val) := by decide +kernel
  have := key ⟨b.toNat, b.toNat_lt⟩
  simpa using this
theorem isX_low (b : UInt8) : (lowU b == 120 || lowU b == 88) = (b == 120 || b == 88) := by
  have key : ∀ n : Fin 256, (lowU (UInt8.ofNat n.val) == 120 || lowU (UInt8.ofNat n.val) == 88) = (UInt8.ofNat n.val == 120 || UInt8.ofNat n.val == 88) := by decide +kernel
  have := key ⟨b.toNat, b.toNat_lt⟩
  simpa using this
theorem is48_low (b : UInt8) : lowU b = 48 ↔ b = 48 := by
  have key : ∀ n : Fin 256, (lowU (UInt8.ofNat n.val) = 48 ↔ UInt8.ofNat n.val = 48) := by decide +kernel
  have := key ⟨b.toNat, b.toNat_lt⟩
  simpa using this
theorem is46_low (b : UInt8) : lowU b = 46 ↔ b = 46 := by
  have key : ∀ n : Fin 256, (lowU (UInt8.ofNat n.val) = 46 ↔ UInt8.ofNat n.val = 46) := by decide +kernel
  have := key ⟨b.toNat, b.toNat_lt⟩
  simpa using this
theorem all_low (q : UInt8 → Bool) (hq : ∀ b, q (lowU b) = q b) (l : List UInt8) : (lowL l).all q = l.all q := by
  unfold lowL
  rw [List.all_map]
  congr 1
  funext b
  exact hq b
theorem numL_some_low (l : List UInt8) : (numL (lowL l)).isSome = (numL l).isSome := by
  have hb : ∀ (base : Nat) (m : List UInt8), (lowL m).all (fun c => decide (digV c < base)) = m.all (fun c => decide (digV c < base)) := fun base m => all_low _ (fun b => by rw [digV_low]) m
  have hi : ∀ (m : List UInt8), m ≠ [] → (numL m).isSome = (baseL m).2.all (fun c => decide (digV c < (baseL m).1)) := by
    intro m hm
    unfold numL
    rw [if_neg hm]
    cases (baseL m).2.all (fun c => decide (digV c < (baseL m).1)) <;> rfl
  cases l with
  | nil => rfl
  | cons a r =>
    have e0 : lowL (a :: r) = lowU a :: lowL r := rfl
    rw [hi (lowL (a :: r)) (by rw [e0]; simp), hi (a :: r) (by simp)]
    by_cases ha : a = 48
    · subst ha
      cases r with
      | nil => rfl
      | cons b r =>
        have e1 : lowL (48 :: b :: r) = 48 :: lowU b :: lowL r := rfl
        have hx := isX_low b
        by_cases hbx : b = 120 ∨ b = 88
        · have hbx2 : lowU b = 120 ∨ lowU b = 88 := by rcases hbx with rfl | rfl <;> decide
          rw [e1, baseL_16 b r hbx, baseL_16 _ (lowL r) hbx2]
          exact hb 16 r
        · have hbx2 : ¬ (lowU b = 120 ∨ lowU b = 88) := by
            intro h
            have : (lowU b == 120 || lowU b == 88) = true := by simpa using h
            rw [hx] at this
            exact hbx (by simpa using this)
          rw [e1, baseL_8 b r hbx, baseL_8 _ (lowL r) hbx2]
          exact hb 8 (b :: r)
    · have e1 : baseL (a :: r) = (10, a :: r) := baseL_ten _ (.inl (by simpa using ha))
      have e2 : baseL (lowL (a :: r)) = (10, lowL (a :: r)) := baseL_ten _ (.inl (by
        show some (lowU a) ≠ some 48
        intro h
        injection h with h
        exact ha ((is48_low a).1 h)))
      rw [e1, e2]
      exact hb 10 (a :: r)
theorem lastNum_low (l : List UInt8) : lastNum (lowL l) = lastNum l := by
  unfold lastNum
  rw [all_low _ digitU_low, numL_some_low, lowL_length]
  have h1 : (lowL l).isEmpty = l.isEmpty := by cases l <;> rfl
  have h2 : (lowL l).getD 1 0 = lowU (l.getD 1 0) := by
    unfold lowL
    cases l with
    | nil => decide
    | cons a r => cases r with
      | nil => show (0 : UInt8) = lowU 0; decide
      | cons b r => rfl
  rw [h1, h2, Bool.and_assoc, Bool.and_assoc]
  congr 2
  rw [isX_low]
theorem undot_low (l : List UInt8) : undot (lowL l) = lowL (undot l) := by
  rcases list_dot l with ⟨m, rfl⟩ | ⟨h, hu⟩
  · rw [lowL_append, undot_dot, show lowL [46] = [46] from by decide, undot_dot]
  · rw [hu]
    refine undot_self ?_
    intro h2
    apply h
    unfold lowL at h2
    rw [List.getLast?_map] at h2
    simp only [Option.map_eq_some_iff] at h2
    obtain ⟨b, hb, h3⟩ := h2
    rw [hb, (is46_low b).1 h3]
theorem split_low (l : List UInt8) : splitL 46 (lowL l) = (splitL 46 l).map lowL := by
  have key : ∀ (l cur : List UInt8), splitG 46 (lowL l) (lowL cur) = (splitG 46 l cur).map lowL := by
    intro l
    induction l with
    | nil => intro cur; rfl
    | cons b l ih =>
      intro cur
      rw [show lowL (b :: l) = lowU b :: lowL l from rfl, splitG, splitG]
      by_cases hc : b = 46
      · rw [if_pos ((is46_low b).2 hc), if_pos hc, List.map_cons]
        congr 1
        exact ih []
      · rw [if_neg (fun e => hc ((is46_low b).1 e)), if_neg hc]
        have := ih (cur ++ [b])
        rw [lowL_append] at this
        exact this
  exact key l []
theorem numeric_low (l : List UInt8) : numericL (lowL l) = numericL l := by
  unfold numericL
  rw [parts_undot, parts_undot, undot_low, split_low]
  have : ((splitL 46 (undot l)).map lowL).getLastD [] = lowL ((splitL 46 (undot l)).getLastD []) := by
    rw [List.getLastD_eq_getLast?, List.getLastD_eq_getLast?, List.getLast?_map]
    cases (splitL 46 (undot l)).getLast? with
    | none => rfl
    | some x => rfl
  rw [this, lastNum_low]

theorem parseD_name {n : List UInt8} (h : Vn n) (s : List UInt8) (hs : lowL s = n) (hnum : numericL s = false) : parseD s = (0, hvD n) := by
  have hsp : splitL 46 n = (splitL 46 s).map lowL := by rw [← hs]; exact split_low s
  have hnm : namesGo (splitL 46 s) = (0, splitL 46 n) := by
    rw [← names_low, ← hsp]
    exact names_self _ h.lab
  unfold parseD
  rw [if_neg (by rw [hnum]; simp), hnm]
  simp only [join_splitL]
  rw [if_pos trivial, if_neg (by have := h.len; omega), if_neg (by rw [h.num]; simp)]
theorem Vn.lowL {n : List UInt8} (h : Vn n) : lowL n = n := by
  unfold Go.Proofs.YthoolifdmemceaaGreatDoor.lowL
  have : n.map lowU = n.map id := List.map_congr_left fun b hb => (h.low b hb).1
  rw [this, List.map_id]

/-! ### the laws -/
/-- A name in whatever spelling. -/
theorem parse_spell {n m raw : List UInt8} (h : Vn n) (hl : raw.length ≤ 1024) (hh : raw.head? ≠ some 91) (hm : lowL m = n) (hp : pctL raw = some m ∨ pctL raw = some (m ++ [46])) : parseH raw = (0, hvD n) := by
  have hlast : m.getLast? ≠ some 46 := by
    intro h2
    obtain ⟨x, rfl⟩ := List.getLast?_eq_some_iff.1 h2
    apply h.last
    rw [← hm, lowL_append, show lowL [46] = [46] from by decide]
    simp
  have hnum : numericL m = false := by rw [← numeric_low, hm]; exact h.num
  unfold parseH
  rw [if_neg (by omega), if_neg hh]
  rcases hp with hp | hp
  · rw [hp]
    simp only [undot_self hlast]
    exact parseD_name h m hm hnum
  · rw [hp]
    simp only [undot_dot]
    exact parseD_name h m hm hnum
theorem parse_vn {n : List UInt8} (h : Vn n) : parseH n = (0, hvD n) := by
  refine parse_spell h (by have := h.len; omega) ?_ h.lowL (.inl (pctL_self n fun b hb => (h.byte_not b hb).1))
  intro hh
  cases n with
  | nil => cases hh
  | cons b r =>
    injection hh with hh
    exact (h.byte_not b (by simp)).2.1 hh
theorem dec_byte (u : Nat) : ∀ b ∈ Lib.decDigits u, 48 ≤ b.toNat ∧ b.toNat ≤ 57 := by
  intro b hb
  have h := List.all_eq_true.1 (dec_all u) b hb
  have h2 := of_decide_eq_true h
  unfold digV at h2
  split at h2
  · rename_i h3; exact h3
  · split at h2
    · omega
    · split at h2 <;> omega
theorem fmtI_bytes (v : Nat) : ∀ b ∈ fmtI v, b = 46 ∨ (48 ≤ b.toNat ∧ b.toNat ≤ 57) := by
  intro b hb
  unfold fmtI at hb
  rcases mem_joinL 46 _ b hb with hb | ⟨x, hx, hb⟩
  · exact .inl hb
  · simp only [List.mem_cons, List.not_mem_nil, or_false] at hx
    rcases hx with rfl | rfl | rfl | rfl <;> exact .inr (dec_byte _ b hb)
theorem fmtI_not (v : Nat) : ∀ b ∈ fmtI v, b ≠ 37 ∧ b ≠ 91 := by
  intro b hb
  rcases fmtI_bytes v b hb with rfl | h
  · decide
  · refine ⟨?_, ?_⟩ <;> (rintro rfl; revert h; decide)
theorem dec_l3 {u : Nat} (h : u < 256) : (Lib.decDigits u).length ≤ 3 := by
  have key : ∀ n : Fin 256, (Lib.decDigits n.val).length ≤ 3 := by decide +kernel
  exact key ⟨u, h⟩
theorem fmtI_len {v : Nat} (h : v < 4294967296) : (fmtI v).length ≤ 15 := by
  unfold fmtI
  simp only [joinL, List.length_append, List.length_cons]
  have h1 := dec_l3 (u := v / 16777216) (by omega)
  have h2 := dec_l3 (u := v / 65536 % 256) (by omega)
  have h3 := dec_l3 (u := v / 256 % 256) (by omega)
  have h4 := dec_l3 (u := v % 256) (by omega)
  omega
theorem parse_fmtI4 {v : Nat} (h : v < 4294967296) : parseH (fmtI v) = (0, hv4 v) := by
  have hh : (fmtI v).head? ≠ some 91 := by
    intro hh
    cases hf : fmtI v with
    | nil => rw [hf] at hh; cases hh
    | cons b r =>
      rw [hf] at hh
      injection hh with hh
      exact (fmtI_not v b (by rw [hf]; simp)).2 hh
  have hlast : (fmtI v).getLast? ≠ some 46 := by
    intro h2
    obtain ⟨m, hm⟩ := List.getLast?_eq_some_iff.1 h2
    have h3 := split_fmtI v
    have h4 : splitL 46 (m ++ [46]) = splitL 46 m ++ [[]] := splitG_dot 46 m []
    rw [hm, h4] at h3
    have h5 := congrArg List.getLast? h3
    simp at h5
    have h6 := numL_dec (v % 256)
    rw [h5] at h6
    cases h6
  unfold parseH
  rw [if_neg (by have := fmtI_len h; omega), if_neg hh, pctL_self _ (fun b hb => (fmtI_not v b hb).1)]
  simp only [undot_self hlast]
  unfold parseD
  rw [if_pos (numeric_fmtI v), pn_fmtI v h]
theorem parse_fmt6H {g : List Nat} (hg : G16 g) (hl : g.length = 8) (hlen : (fmt6 g).length ≤ 100) : parseH (91 :: (fmt6 g ++ [93])) = (0, hv6 g) := by
  unfold parseH
  rw [if_neg (by simp; omega), if_pos (show (91 :: (fmt6 g ++ [93])).head? = some 91 from rfl)]
  unfold parse6H
  have e1 : (91 :: (fmt6 g ++ [93])).getLast? = some 93 := by rw [← List.cons_append, List.getLast?_append]; rfl
  have e2 : ((91 :: (fmt6 g ++ [93])).drop 1).dropLast = fmt6 g := by simp
  rw [if_neg (by rw [e1]; simp), e2, parse_fmt6 g hg hl]
theorem valid_kinds {h : Hv} (hv : validH h = true) : (Vn h.name ∧ h = hvD h.name) ∨ h = hv4 h.v4 ∨ h = hv6 h.v6 := by
  obtain ⟨k, n, v, g⟩ := h
  unfold validH at hv
  simp only at hv
  split at hv
  · rename_i hk
    simp only [Bool.and_eq_true, beq_iff_eq] at hv
    obtain ⟨⟨h1, h2⟩, h3⟩ := hv
    exact .inl ⟨(vn_iff n).1 h1, by unfold hvD; rw [hk, h2, h3]⟩
  · split at hv
    · rename_i _ hk
      simp only [Bool.and_eq_true, beq_iff_eq, List.isEmpty_iff] at hv
      exact .inr (.inl (by unfold hv4; rw [hk, hv.1, hv.2]))
    · split at hv
      · rename_i _ _ hk
        simp only [Bool.and_eq_true, beq_iff_eq, List.isEmpty_iff] at hv
        exact .inr (.inr (by unfold hv6; rw [hk, hv.1, hv.2]))
      · cases hv
theorem valid_D {n : List UInt8} (h : Vn n) : validH (hvD n) = true := by
  unfold validH hvD
  simp [(vn_iff n).2 h]
theorem valid_4 (v : Nat) : validH (hv4 v) = true := by
  unfold validH hv4
  simp
theorem valid_6 (g : List Nat) : validH (hv6 g) = true := by
  unfold validH hv6
  simp
/-- Parsing reads back the text of a valid host. -/
theorem parse_fmt {h : Hv} (hw : h.Wf) (hv : validH h = true) (hlen : (fmt6 h.v6).length ≤ 100) : parseH (fmtH h) = (0, h) := by
  unfold fmtH
  rw [if_pos hv]
  rcases valid_kinds hv with ⟨hn, e⟩ | e | e
  · have e2 : fmtT h = h.name := by rw [e]; rfl
    rw [e2, parse_vn hn, ← e]
  · have e2 : fmtT h = fmtI h.v4 := by rw [e]; rfl
    rw [e2, parse_fmtI4 hw.1, ← e]
  · have e2 : fmtT h = 91 :: (fmt6 h.v6 ++ [93]) := by rw [e]; rfl
    rw [e2, parse_fmt6H hw.2.2 hw.2.1 hlen, ← e]
theorem hexL_lt {l : List UInt8} {v : Nat} (h : hexL l = some v) : v < 65536 := by
  unfold hexL at h
  split at h
  · rename_i hc
    injection h with h
    subst h
    have key : ∀ (l : List UInt8) (a : Nat), l.all (fun c => decide (digV c < 16)) = true → valB 16 a l < (a + 1) * 16 ^ l.length := by
      intro l
      induction l with
      | nil => intro a _; rw [valB]; simp
      | cons c l ih =>
        intro a h
        rw [List.all_cons, Bool.and_eq_true] at h
        have hc := of_decide_eq_true h.1
        have h2 := ih (a * 16 + digV c) h.2
        rw [valB, List.length_cons, Nat.pow_succ]
        have h3 : (a * 16 + digV c + 1) * 16 ^ l.length ≤ ((a + 1) * 16) * 16 ^ l.length := Nat.mul_le_mul_right _ (by omega)
        have h4 : (a + 1) * 16 * 16 ^ l.length = (a + 1) * (16 ^ l.length * 16) := by rw [Nat.mul_assoc, Nat.mul_comm 16]
        omega
    have h1 := key l 0 hc.2
    have h2 : 16 ^ l.length ≤ 16 ^ 4 := Nat.pow_le_pow_right (by omega) hc.1.2
    have h3 : (16 : Nat) ^ 4 = 65536 := rfl
    omega
  · cases h
theorem grpGo_16 : ∀ (p : List (List UInt8)) (last : Bool) (g : List Nat), grpGo p last = some g → G16 g
  | [], last, g, h => by
    injection h with h
    subst h
    intro x hx
    cases hx
  | [x], last, g, h => by
    rw [grpGo] at h
    split at h
    · rename_i v hv
      injection h with h
      subst h
      have hlt : v < 4294967296 := by
        split at hv
        · exact (parseL_some hv).1
        · cases hv
      intro y hy
      simp only [List.mem_cons, List.not_mem_nil, or_false] at hy
      omega
    · split at h
      · rename_i v hv
        injection h with h
        subst h
        intro y hy
        simp only [List.mem_cons, List.not_mem_nil, or_false] at hy
        rw [hy]
        exact hexL_lt hv
      · cases h
  | x :: y :: r, last, g, h => by
    rw [grpGo] at h
    split at h
    · cases h
    · rename_i v hv
      split at h
      · cases h
      · rename_i m hm
        injection h with h
        subst h
        intro z hz
        rcases List.mem_cons.1 hz with rfl | hz
        · exact hexL_lt hv
        · exact grpGo_16 (y :: r) last m hm z hz
theorem groupsL_16 {l : List UInt8} {last : Bool} {g : List Nat} (h : groupsL l last = some g) : G16 g := by
  unfold groupsL at h
  split at h
  · injection h with h
    subst h
    intro x hx
    cases hx
  · exact grpGo_16 _ _ _ h
theorem parse6_wf {l : List UInt8} {g : List Nat} (h : parse6 l = some g) : g.length = 8 ∧ G16 g := by
  unfold parse6 at h
  split at h
  · split at h
    · rename_i m hm
      split at h
      · rename_i h8
        injection h with h
        subst h
        exact ⟨h8, groupsL_16 hm⟩
      · cases h
    · cases h
  · split at h
    · cases h
    · rename_i a ha
      split at h
      · cases h
      · rename_i b hb
        split at h
        · rename_i h7
          injection h with h
          subst h
          refine ⟨by simp [zerosN]; omega, ?_⟩
          intro x hx
          simp only [List.mem_append] at hx
          rcases hx with hx | hx | hx
          · exact groupsL_16 ha x hx
          · have := (List.mem_replicate.1 hx).2
            omega
          · exact groupsL_16 hb x hx
        · cases h
theorem z8_wf : z8.length = 8 ∧ G16 z8 := ⟨rfl, by intro x hx; have := (List.mem_replicate.1 hx).2; omega⟩
theorem hv0_wf : hv0.Wf := ⟨by decide, z8_wf.1, z8_wf.2⟩
/-- Whatever parsing answers can be read, and is valid where there is no error. -/
theorem parse_valid (raw : List UInt8) : (parseH raw).2.Wf ∧ ((parseH raw).1 = 0 ∧ validH (parseH raw).2 = true ∨ (parseH raw).1 ≠ 0 ∧ (parseH raw).2 = hv0) := by
  have bad : ∀ e : Nat, e ≠ 0 → ((e, hv0) : Nat × Hv).2.Wf ∧ (((e, hv0) : Nat × Hv).1 = 0 ∧ validH ((e, hv0) : Nat × Hv).2 = true ∨ ((e, hv0) : Nat × Hv).1 ≠ 0 ∧ ((e, hv0) : Nat × Hv).2 = hv0) := fun e he => ⟨hv0_wf, .inr ⟨he, rfl⟩⟩
  unfold parseH
  split
  · exact bad 3 (by decide)
  · split
    · unfold parse6H
      split
      · exact bad 14 (by decide)
      · split
        · exact bad 14 (by decide)
        · rename_i g hg
          have := parse6_wf hg
          exact ⟨⟨show (0 : Nat) < 4294967296 by omega, this.1, this.2⟩, .inl ⟨rfl, valid_6 g⟩⟩
    · split
      · exact bad 14 (by decide)
      · unfold parseD
        split
        · split
          · exact bad 14 (by decide)
          · rename_i v hv
            exact ⟨⟨pnL_range hv, z8_wf.1, z8_wf.2⟩, .inl ⟨rfl, valid_4 v⟩⟩
        · split
          · rename_i h0
            split
            · exact bad 3 (by decide)
            · split
              · exact bad 14 (by decide)
              · rename_i s _ _ hl hn
                obtain ⟨q1, q2⟩ := names_lab (splitL 46 (undot s)) (namesGo (splitL 46 (undot s))).2 (by rw [← h0])
                have hq : (namesGo (splitL 46 (undot s))).2 ≠ [] := by
                  intro e
                  rw [e] at q2
                  have := splitL_pos 46 (undot s)
                  simp at q2
                  omega
                exact ⟨⟨show (0 : Nat) < 4294967296 by omega, z8_wf.1, z8_wf.2⟩, .inl ⟨rfl, valid_D (vn_join q1 hq (by omega) (by simpa using hn))⟩⟩
          · rename_i h0
            exact bad _ h0
end

section
open Go.RowKit

def coversL (s n : List UInt8) : Bool := vnL s && vnL n && (decide (s = n) || (46 :: s).isSuffixOf n)
theorem covers_iff (s n : List UInt8) : coversL s n = true ↔ Vn s ∧ Vn n ∧ (s = n ∨ (46 :: s) <:+ n) := by
  unfold coversL
  rw [Bool.and_eq_true, Bool.and_eq_true, vn_iff, vn_iff, Bool.or_eq_true, decide_eq_true_iff, List.isSuffixOf_iff_suffix, and_assoc]
theorem covers_refl (s : List UInt8) : coversL s s = vnL s := by
  rw [Bool.eq_iff_iff, covers_iff, vn_iff]
  exact ⟨fun h => h.1, fun h => ⟨h, h, .inl rfl⟩⟩
theorem covers_anti {a b : List UInt8} (h1 : coversL a b = true) (h2 : coversL b a = true) : a = b := by
  rw [covers_iff] at h1 h2
  rcases h1.2.2 with h | h
  · exact h
  · rcases h2.2.2 with h' | h'
    · exact h'.symm
    · have e1 := h.length_le
      have e2 := h'.length_le
      simp at e1 e2
      omega
theorem suffix_of_cons {x : UInt8} {a b : List UInt8} (h : a <:+ b) : a <:+ x :: b := by
  obtain ⟨t, rfl⟩ := h
  exact ⟨x :: t, rfl⟩
theorem covers_trans {a b c : List UInt8} (h1 : coversL a b = true) (h2 : coversL b c = true) : coversL a c = true := by
  rw [covers_iff] at h1 h2 ⊢
  refine ⟨h1.1, h2.2.1, ?_⟩
  rcases h1.2.2 with rfl | h
  · exact h2.2.2
  · rcases h2.2.2 with rfl | h'
    · exact .inr h
    · exact .inr ((suffix_of_cons h).trans h')
theorem covers_comp {a b c : List UInt8} (h1 : coversL a c = true) (h2 : coversL b c = true) : coversL a b = true ∨ coversL b a = true := by
  have h1' := h1
  have h2' := h2
  rw [covers_iff] at h1 h2
  rcases h1.2.2 with rfl | h
  · exact .inr h2'
  · rcases h2.2.2 with rfl | h'
    · exact .inl h1'
    · rcases List.suffix_or_suffix_of_suffix h h' with k | k
      · rcases List.suffix_cons_iff.1 k with e | k
        · injection e with _ e
          subst e
          exact .inl ((covers_iff _ _).2 ⟨h1.1, h2.1, .inl rfl⟩)
        · exact .inl ((covers_iff _ _).2 ⟨h1.1, h2.1, .inr k⟩)
      · rcases List.suffix_cons_iff.1 k with e | k
        · injection e with _ e
          subst e
          exact .inr ((covers_iff _ _).2 ⟨h2.1, h1.1, .inl rfl⟩)
        · exact .inr ((covers_iff _ _).2 ⟨h2.1, h1.1, .inr k⟩)

/-! ### superdomains -/
theorem splitG_mid (c : UInt8) (r : List UInt8) : ∀ (x cur : List UInt8), splitG c (x ++ c :: r) cur = splitG c x cur ++ splitG c r []
  | [], cur => by simp [splitG]
  | b :: x, cur => by
    rw [List.cons_append, splitG, splitG]
    split
    · rw [splitG_mid c r x []]; rfl
    · exact splitG_mid c r x _
theorem splitL_mid (c : UInt8) (x r : List UInt8) : splitL c (x ++ c :: r) = splitL c x ++ splitL c r := splitG_mid c r x []
theorem splitL_ne (c : UInt8) (l : List UInt8) : splitL c l ≠ [] := splitG_ne c l []
theorem Vn.suffix {x r : List UInt8} (h : Vn (x ++ 46 :: r)) : Vn r := by
  have hr : ∀ m, r = m ++ [46] → False := by
    rintro m rfl
    refine split_dot_lab (m := x ++ 46 :: m) ?_
    have := h.lab
    rw [show x ++ 46 :: (m ++ [46]) = x ++ 46 :: m ++ [46] by simp] at this
    exact this
  have hlast : r.getLast? ≠ some 46 := fun h2 => by
    obtain ⟨m, hm⟩ := List.getLast?_eq_some_iff.1 h2
    exact hr m hm
  refine ⟨?_, ?_, ?_, ?_⟩
  · rintro rfl
    exact split_dot_lab h.lab
  · have := h.len
    simp at this
    omega
  · rw [← h.num]
    unfold numericL
    rw [parts_undot, parts_undot, undot_self hlast, undot_self h.last, splitL_mid]
    congr 1
    rw [List.getLastD_eq_getLast?, List.getLastD_eq_getLast?, List.getLast?_append]
    cases hs : (splitL 46 r).getLast? with
    | none => exact absurd (List.getLast?_eq_none_iff.1 hs) (splitL_ne 46 r)
    | some y => rfl
  · intro y hy
    refine h.lab y ?_
    rw [splitL_mid]
    exact List.mem_append_right _ hy
def supGo : List UInt8 → List (List UInt8)
  | [] => []
  | b :: r => if b = 46 ∧ vnL r = true then r :: supGo r else supGo r
def supersL (n : List UInt8) : List (List UInt8) := if vnL n = true then supGo n else []
def labelsL (n : List UInt8) : Nat := if vnL n = true then (splitL 46 n).length else 0
def ChainS : List UInt8 → List (List UInt8) → Prop
  | _, [] => True
  | prev, x :: t => (46 :: x) <:+ prev ∧ vnL x = true ∧ ChainS x t
theorem sup_chain : ∀ (l prev : List UInt8), l <:+ prev → ChainS prev (supGo l)
  | [], _, _ => trivial
  | b :: r, prev, h => by
    rw [supGo]
    split
    · rename_i hc
      obtain ⟨rfl, hv⟩ := hc
      exact ⟨h, hv, sup_chain r r (List.suffix_refl r)⟩
    · exact sup_chain r prev ((List.suffix_cons b r).trans h)
theorem ChainS.at_ : ∀ {L : List (List UInt8)} {prev : List UInt8}, ChainS prev L → ∀ (k : Nat) (hk : k < L.length), (46 :: L[k]) <:+ (if k = 0 then prev else L.getD (k - 1) []) ∧ vnL L[k] = true
  | [], _, _, k, hk => absurd hk (by simp)
  | x :: t, prev, h, 0, _ => ⟨h.1, h.2.1⟩
  | x :: t, prev, h, k + 1, hk => by
    have h1 := ChainS.at_ h.2.2 k (by simpa using hk)
    refine ⟨?_, h1.2⟩
    rw [if_neg (by omega), show k + 1 - 1 = k from rfl]
    have h2 := h1.1
    cases k with
    | zero => exact h2
    | succ j => exact h2
theorem sup_suffix : ∀ (l : List UInt8), ∀ x ∈ supGo l, (46 :: x) <:+ l ∧ vnL x = true
  | [], x, h => by cases h
  | b :: r, x, h => by
    rw [supGo] at h
    split at h
    · rename_i hc
      obtain ⟨rfl, hv⟩ := hc
      rcases List.mem_cons.1 h with rfl | h
      · exact ⟨List.suffix_refl _, hv⟩
      · have := sup_suffix r x h
        exact ⟨suffix_of_cons this.1, this.2⟩
    · have := sup_suffix r x h
      exact ⟨suffix_of_cons this.1, this.2⟩
theorem splitG_len (c : UInt8) : ∀ (l cur : List UInt8), (splitG c l cur).length = (splitG c l []).length
  | [], _ => rfl
  | b :: l, cur => by
    rw [splitG, splitG]
    split
    · rfl
    · rw [splitG_len c l (cur ++ [b]), splitG_len c l ([] ++ [b])]
theorem sup_count : ∀ (l : List UInt8), (∀ x r, l = x ++ 46 :: r → vnL r = true) → (supGo l).length + 1 = (splitL 46 l).length
  | [], _ => rfl
  | b :: r, h => by
    have ih := sup_count r (fun x t e => h (b :: x) t (by rw [e]; rfl))
    unfold splitL at ih ⊢
    by_cases hb : b = 46
    · rw [supGo, if_pos ⟨hb, h [] r (by rw [hb]; rfl)⟩, splitG, if_pos hb, List.length_cons, List.length_cons, ih]
    · rw [supGo, if_neg (fun hc => hb hc.1), splitG, if_neg hb, splitG_len, ih]
theorem supers_count (n : List UInt8) : (supersL n).length = labelsL n - 1 := by
  unfold supersL labelsL
  split
  · rename_i h
    have := sup_count n (fun x r e => by
      rw [vn_iff] at h ⊢
      rw [e] at h
      exact h.suffix)
    omega
  · rfl
theorem supers_at (n : List UInt8) (k : Nat) (hk : k < (supersL n).length) : vnL n = true ∧ (46 :: (supersL n)[k]) <:+ (if k = 0 then n else (supersL n).getD (k - 1) []) ∧ vnL (supersL n)[k] = true ∧ (46 :: (supersL n)[k]) <:+ n := by
  by_cases h : vnL n = true
  · have e : supersL n = supGo n := by unfold supersL; rw [if_pos h]
    have hk' : k < (supGo n).length := by rw [← e]; exact hk
    have h1 := (sup_chain n n (List.suffix_refl n)).at_ k hk'
    have h2 := sup_suffix n (supGo n)[k] (List.getElem_mem hk')
    simp only [e]
    exact ⟨h, h1.1, h1.2, h2.1⟩
  · have e : supersL n = [] := by unfold supersL; rw [if_neg h]
    rw [e] at hk
    cases hk
end

section
open Go.RowKit

theorem tyInts : Tryz.prog.underlying 65 = some (.slice 3) := by kernel_rfl
theorem infoInt : (Tryz.prog.info? 3).map (fun i => (i.zero, i.size, i.bytes)) = some (some (.int .i64 0), 1, 8) := by kernel_rfl
/-- Numbers that came in, or that the statement holds. -/
structure InZ (w : World) (B : Nat) (A : Option Addr) (len cap : Nat) (Z : List Int) : Prop where
  has : Has w B A len (Z.map (Value.int .i64))
  le : len ≤ cap
  room : cap ≤ maxLen
  nil : A = none → cap = 0
  wf : ∀ z ∈ Z, -9223372036854775808 ≤ z ∧ z ≤ 9223372036854775807
theorem InZ.len {w : World} {B len cap : Nat} {A : Option Addr} {Z : List Int} (h : InZ w B A len cap Z) : len = Z.length := by have := h.has.1; simpa using this.symm
theorem InZ.below {w w' : World} {B B' len cap : Nat} {A : Option Addr} {Z : List Int} (h : InZ w B A len cap Z) (hb : Below B' w w') (hB : B ≤ B') : InZ w' B A len cap Z := ⟨h.has.below' hb hB, h.le, h.room, h.nil, h.wf⟩
theorem InZ.more {w : World} {B B' len cap : Nat} {A : Option Addr} {Z : List Int} (h : InZ w B A len cap Z) (hB : B ≤ B') : InZ w B' A len cap Z := ⟨h.has.more hB, h.le, h.room, h.nil, h.wf⟩
end

section
open Go.RowKit

/-- What decoding answers: the error, and the code points. -/
def puE (l : List UInt8) : Nat := match decL l with
  | .ok _ => 0
  | .error c => c
def puV (l : List UInt8) : List Nat := match decL l with
  | .ok p => p
  | .error _ => []
theorem dec_err {l : List UInt8} {c : Nat} (h : decL l = .error c) : puE l = c ∧ puV l = [] := by unfold puE puV; rw [h]; exact ⟨rfl, rfl⟩
theorem pu_dec_ok {l p : List _} (h : decL l = .ok p) : puE l = 0 ∧ puV l = p := by unfold puE puV; rw [h]; exact ⟨rfl, rfl⟩
/-- Code points in cells. -/
abbrev nvI (n : Nat) : Value := .int .i64 (n : Int)
def DecPost (l : List UInt8) (w : World) (e : Ending) (w' : World) : Prop := (∃ v, e = .returned (.tuple #[v, .int .i64 (puE l : Nat)]) ∧ w'.ownsRow w.heap.size 3 1 v (puV l).length ((puV l).map nvI)) ∧ Below w.heap.size w w'
theorem DecPost.err {l : List UInt8} {w w' : World} {c : Nat} (h : decL l = .error c) (hb : Below w.heap.size w w') : DecPost l w (.returned (.tuple #[.slice none 0 0, .int .i64 (c : Int)])) w' := by
  obtain ⟨h1, h2⟩ := dec_err h
  refine ⟨⟨_, by rw [h1], ?_⟩, hb⟩
  rw [h2]
  exact World.ownsRow_nil _ _ _ _
theorem DecPost.ok {l : List UInt8} {p : List Nat} {w w' : World} {v : Value} (h : decL l = .ok p) (ho : w'.ownsRow w.heap.size 3 1 v p.length (p.map nvI)) (hb : Below w.heap.size w w') : DecPost l w (.returned (.tuple #[v, .int .i64 0])) w' := by
  obtain ⟨h1, h2⟩ := pu_dec_ok h
  refine ⟨⟨v, by rw [h1]; rfl, ?_⟩, hb⟩
  rw [h2]
  exact ho
end

section
open Go.RowKit

def Yes (w : World) (e : Ending) (w' : World) : Prop := e = .returned (.bool true) ∧ Below w.heap.size w w'
theorem yes_of {w w1 w' : World} {e : Ending} (hb : Below w.heap.size w w1) (h : Yes w1 e w') : Yes w e w' := ⟨h.1, hb.trans (h.2.mono hb.size)⟩
end

section
open Go.RowKit

def PuEnc (F : FuncId) : Prop := ∀ (Z : List Int) (A : Option Addr) (len cap B : Nat) (w : World), InZ w B A len cap Z → B ≤ w.heap.size → Z.length ≤ 1000000 →
  Calls Tryz.prog F #[.slice A len cap] w fun e w' => e = .returned (.tuple #[.string (bs (encL Z).2), .int .i64 ((encL Z).1 : Nat)]) ∧ Below w.heap.size w w'
def PuDec (F : FuncId) : Prop := ∀ (s : ByteArray) (w : World), s.size ≤ 1000000000 → Calls Tryz.prog F #[.string s] w (DecPost (ls s) w)

theorem ex_dec : decL (ls ⟨#[98, 99, 104, 101, 114, 45, 107, 118, 97]⟩) = .ok [98, 252, 99, 104, 101, 114] := by kernel_rfl
theorem ex_hy : decL (ls ⟨#[45]⟩) = .error 4 := by kernel_rfl
theorem ex_ds : encDs [98, 252, 99, 104, 101, 114] = [745] := by kernel_rfl
theorem ex_gen : genV 745 0 72 = [10, 21, 0] := by
  rw [genV_more (by decide), show (745 - thr 0 72) / (36 - thr 0 72) = 21 from rfl, genV_more (by decide), show (21 - thr (0 + 1) 72) / (36 - thr (0 + 1) 72) = 0 from rfl, genV_one (by decide)]
  rfl
theorem ex_enc : encL [98, 252, 99, 104, 101, 114] = (0, [98, 99, 104, 101, 114, 45, 107, 118, 97]) := by
  have h1 : encL [98, 252, 99, 104, 101, 114] = (0, encB [98, 252, 99, 104, 101, 114]) := by kernel_rfl
  have h2 : encB [98, 252, 99, 104, 101, 114] = [98, 99, 104, 101, 114] ++ ([45] ++ digsOf [745] 72 5 true) := by
    unfold encB
    rw [ex_ds]
    rfl
  rw [h1, h2, digsOf, ex_gen, digsOf]
  rfl

/-- What a row of the call's own says of its slice. -/
theorem inZ_own {w : World} {base n : Nat} {v : Value} {Z : List Int} (h : w.ownsRow base 3 1 v n (Z.map (Value.int .i64))) (hw : ∀ z ∈ Z, -9223372036854775808 ≤ z ∧ z ≤ 9223372036854775807) :
    ∃ A c, v = .slice A n c ∧ InZ w w.heap.size A n c Z := by
  obtain ⟨A, c, rfl, hh, hle⟩ := Has.of_own h
  refine ⟨A, c, rfl, hh, hle, ?_, of_own_none h, hw⟩
  rcases h.2 with ⟨e, _⟩ | ⟨g, cap, cur, e, _, _, _, hm, _⟩
  · injection e with _ _ e3
    subst e3
    exact Nat.zero_le _
  · injection e with _ _ e3
    subst e3
    exact hm
theorem pt_range {p : Nat} (h : p ≤ 1114111) : -9223372036854775808 ≤ (p : Int) ∧ (p : Int) ≤ 9223372036854775807 := by omega
theorem nvI_zv (P : List Nat) : P.map nvI = (P.map (fun n : Nat => (n : Int))).map (Value.int .i64) := by rw [List.map_map]; rfl
end

section
open Go.RowKit

def U8 (w : World) : Prop := Lib.Utf8Tabs 1 2 w
theorem u8_below {w w' : World} (h : U8 w) (hb : Below w.heap.size w w') : U8 w' := Utf8Tabs_below h hb
end

end Go.Proofs.YthoolifdmemceaaGreatDoor
