/-
IPv6 addresses in plain words: no program.
Hosts in plain words: percent signs, names, what parsing answers, the text, and their laws. No program.
-/
import Derived.Test.YtpccpgihldpiiaaGreatDoorC03
import Derived.Test.YtpccpgihldpiiaaGreatDoorC02
namespace Go.Proofs.YtpccpgihldpiiaaGreatDoor
section
open Go.RowKit

/-- A group. -/
def hexL (l : List UInt8) : Option Nat := if (1 ≤ l.length ∧ l.length ≤ 4) ∧ l.all (fun c => decide (digV c < 16)) = true then some (valB 16 0 l) else none
def grpGo : List (List UInt8) → Bool → Option (List Nat)
  | [], _ => some []
  | [x], last => match (if last then parseL x else none) with
    | some v => some [v / 65536, v % 65536]
    | none => match hexL x with
      | some g => some [g]
      | none => none
  | x :: y :: r, last => match hexL x with
    | none => none
    | some g => match grpGo (y :: r) last with
      | none => none
      | some m => some (g :: m)
/-- Groups that are separated by colons. -/
def groupsL (l : List UInt8) (last : Bool) : Option (List Nat) := if l = [] then some [] else grpGo (splitL 58 l) last
/-- The first two colons. -/
def dblGo : List UInt8 → Nat → Option Nat
  | [], _ => none
  | [_], _ => none
  | a :: b :: r, i => if a = 58 ∧ b = 58 then some i else dblGo (b :: r) (i + 1)
def zerosN (n : Nat) : List Nat := List.replicate n 0
/-- The groups of an address. -/
def parse6 (l : List UInt8) : Option (List Nat) := match dblGo l 0 with
  | none => match groupsL l true with
    | some g => if g.length = 8 then some g else none
    | none => none
  | some k => match groupsL (l.take k) false with
    | none => none
    | some g => match groupsL (l.drop (k + 2)) true with
      | none => none
      | some h => if g.length + h.length ≤ 7 then some (g ++ (zerosN (8 - g.length - h.length) ++ h)) else none
/-- The text of a group. -/
def hexT (v : Nat) : List UInt8 := digsB 16 v
def zrun (l : List Nat) : Nat := (l.takeWhile fun x => x == 0).length
def bestStep (a : List Nat) (st : Int × Nat) (i : Nat) : Int × Nat := if st.2 < zrun (a.drop i) then ((i : Int), zrun (a.drop i)) else st
/-- The first longest run of groups 0. -/
def bestUpto (a : List Nat) (k : Nat) : Int × Nat := (List.range k).foldl (bestStep a) (-1, 1)
/-- The text up to group k, the m groups from at on given as two colons. -/
def txt6 (a : List Nat) (at_ : Int) (m k : Nat) : List UInt8 := if at_ < 0 ∨ (k : Int) ≤ at_ then joinL 58 ((a.take k).map hexT) else joinL 58 ((a.take at_.toNat).map hexT) ++ 58 :: 58 :: joinL 58 (((a.take k).drop (at_.toNat + m)).map hexT)
def fmt6 (a : List Nat) : List UInt8 := txt6 a (bestUpto a 8).1 (bestUpto a 8).2 8

theorem bestUpto_succ (a : List Nat) (k : Nat) : bestUpto a (k + 1) = bestStep a (bestUpto a k) k := by
  unfold bestUpto
  rw [List.range_succ, List.foldl_append]; rfl
theorem zrun_le (l : List Nat) : zrun l ≤ l.length := by
  unfold zrun
  induction l with
  | nil => simp
  | cons x r ih => rw [List.takeWhile_cons]; split <;> simp; omega
theorem zrun_zero (l : List Nat) : l.take (zrun l) = zerosN (zrun l) := by
  induction l with
  | nil => rfl
  | cons x r ih =>
    unfold zrun at ih ⊢
    rw [List.takeWhile_cons]
    by_cases h : (x == 0) = true
    · rw [if_pos h]
      have : x = 0 := by simpa using h
      subst this
      rw [List.length_cons, List.take_succ_cons, ih]; rfl
    · rw [if_neg h]; rfl
/-- What the best run is: none, or a run of two or more that begins within. -/
theorem best_is (a : List Nat) : ∀ k, (bestUpto a k = (-1, 1)) ∨ (∃ i m, i < k ∧ bestUpto a k = ((i : Int), m) ∧ 2 ≤ m ∧ m = zrun (a.drop i))
  | 0 => .inl rfl
  | k + 1 => by
    rw [bestUpto_succ]
    unfold bestStep
    split
    · rename_i h
      refine .inr ⟨k, _, by omega, rfl, ?_, rfl⟩
      rcases best_is a k with e | ⟨i, m, _, e, h2, _⟩
      · rw [e] at h; simp only at h; omega
      · rw [e] at h; simp only at h; omega
    · rcases best_is a k with e | ⟨i, m, hi, e, h2⟩
      · exact .inl e
      · exact .inr ⟨i, m, by omega, e, h2⟩
theorem bestUpto_pos (a : List Nat) (k : Nat) : 1 ≤ (bestUpto a k).2 := by
  rcases best_is a k with e | ⟨i, m, _, e, h, _⟩ <;> rw [e]
  · exact Nat.le_refl _
  · show 1 ≤ m; omega

/-- Two colons. -/
theorem dbl_shift : ∀ (l : List UInt8) (i : Nat), dblGo l i = (dblGo l 0).map (· + i)
  | [], _ => rfl
  | [_], _ => rfl
  | a :: b :: r, i => by
    unfold dblGo
    split
    · simp
    · rw [dbl_shift (b :: r) (i + 1), dbl_shift (b :: r) (0 + 1)]
      cases dblGo (b :: r) 0 with
      | none => rfl
      | some x => simp; omega
theorem dbl_before : ∀ (l r : List UInt8) (i : Nat), dblGo l i = none → l.getLast? ≠ some 58 → dblGo (l ++ 58 :: 58 :: r) i = some (i + l.length)
  | [], r, i, _, _ => by simp [dblGo]
  | [x], r, i, _, h => by
    have hx : x ≠ 58 := by simpa using h
    rw [List.cons_append, List.nil_append, dblGo, if_neg (fun e => hx e.1), dblGo, if_pos ⟨rfl, rfl⟩]; rfl
  | x :: y :: l, r, i, h, h2 => by
    have hne : ¬ (x = 58 ∧ y = 58) := by
      intro e
      rw [dblGo, if_pos e] at h
      cases h
    rw [dblGo, if_neg hne] at h
    have h3 : (y :: l).getLast? ≠ some 58 := by rwa [List.getLast?_cons_cons] at h2
    have ih := dbl_before (y :: l) r (i + 1) h h3
    rw [List.cons_append, List.cons_append, dblGo, if_neg hne]
    rw [List.cons_append] at ih
    rw [ih]
    simp; omega
theorem dbl_free : ∀ (a m : List UInt8) (i : Nat), noB 58 a → m.head? ≠ some 58 → dblGo m (i + a.length + 1) = none → dblGo (a ++ 58 :: m) i = none
  | [], [], i, _, _, _ => rfl
  | [], c :: m, i, _, h, h2 => by
    have hc : c ≠ 58 := by simpa using h
    rw [List.nil_append, dblGo, if_neg (fun e => hc e.2)]
    simpa using h2
  | [x], m, i, ha, h, h2 => by
    have hx : x ≠ 58 := ha x (by simp)
    rw [List.cons_append, List.nil_append, dblGo, if_neg (fun e => hx e.1)]
    have := dbl_free [] m (i + 1) (by intro b hb; simp at hb) h (by simpa using h2)
    simpa using this
  | x :: y :: a, m, i, ha, h, h2 => by
    have hx : x ≠ 58 := ha x (by simp)
    rw [List.cons_append, List.cons_append, dblGo, if_neg (fun e => hx e.1)]
    have := dbl_free (y :: a) m (i + 1) (fun b hb => ha b (by simp at hb ⊢; exact .inr hb)) h (by
      have e : i + 1 + (y :: a).length + 1 = i + (x :: y :: a).length + 1 := by simp; omega
      rw [e]; exact h2)
    simpa using this
theorem dbl_noB : ∀ (a : List UInt8) (i : Nat), noB 58 a → dblGo a i = none
  | [], _, _ => rfl
  | [_], _, _ => rfl
  | x :: y :: a, i, h => by
    rw [dblGo, if_neg (fun e => h x (by simp) e.1)]
    exact dbl_noB (y :: a) (i + 1) (fun b hb => h b (by simp at hb ⊢; exact .inr hb))
/-- Parts that are not empty and contain no colon. -/
def Cols (P : List (List UInt8)) : Prop := ∀ x ∈ P, x ≠ [] ∧ noB 58 x
theorem Cols.tail {x : List UInt8} {P : List (List UInt8)} (h : Cols (x :: P)) : Cols P := fun y hy => h y (by simp [hy])
theorem join_head {P : List (List UInt8)} (h : Cols P) : (joinL 58 P).head? ≠ some 58 := by
  match P, h with
  | [], _ => simp [joinL]
  | [a], h =>
    obtain ⟨h1, h2⟩ := h a (by simp)
    cases a with
    | nil => exact absurd rfl h1
    | cons c r => simpa [joinL] using h2 c (by simp)
  | a :: b :: r, h =>
    obtain ⟨h1, h2⟩ := h a (by simp)
    cases a with
    | nil => exact absurd rfl h1
    | cons c r => simpa [joinL] using h2 c (by simp)
theorem join_ne {P : List (List UInt8)} (h : Cols P) (hP : P ≠ []) : joinL 58 P ≠ [] := by
  match P, h with
  | [a], h => exact (h a (by simp)).1
  | a :: b :: r, h => simp [joinL]
theorem join_last {P : List (List UInt8)} (h : Cols P) : (joinL 58 P).getLast? ≠ some 58 := by
  induction P with
  | nil => simp [joinL]
  | cons a r ih =>
    cases r with
    | nil =>
      obtain ⟨h1, h2⟩ := h a (by simp)
      rw [joinL]
      intro e
      have := List.mem_of_getLast? e
      exact h2 58 this rfl
    | cons b r =>
      have h3 := ih h.tail
      have h4 := join_ne h.tail (by simp)
      rw [joinL]
      rw [List.getLast?_append, List.getLast?_cons]
      cases hx : (joinL 58 (b :: r)).getLast? with
      | none => exact absurd (List.getLast?_eq_none_iff.1 hx) h4
      | some y => rw [hx] at h3; simpa using h3
theorem join_dbl {P : List (List UInt8)} (h : Cols P) : ∀ i, dblGo (joinL 58 P) i = none := by
  induction P with
  | nil => intro i; rfl
  | cons a r ih =>
    intro i
    cases r with
    | nil => exact dbl_noB a i (h a (by simp)).2
    | cons b r =>
      rw [joinL]
      exact dbl_free a _ i (h a (by simp)).2 (join_head h.tail) (ih h.tail _)
theorem join_split {P : List (List UInt8)} (h : Cols P) (hP : P ≠ []) : splitL 58 (joinL 58 P) = P := split_joinL 58 P hP (fun a ha => (h a ha).2)
theorem groups_join {P : List (List UInt8)} (h : Cols P) (last : Bool) : groupsL (joinL 58 P) last = grpGo P last := by
  unfold groupsL
  by_cases hP : P = []
  · subst hP; rfl
  · rw [if_neg (join_ne h hP), join_split h hP]
/-- The address of groups with and without two colons. -/
theorem parse_plain {P : List (List UInt8)} (h : Cols P) {g : List Nat} (hg : grpGo P true = some g) (hl : g.length = 8) : parse6 (joinL 58 P) = some g := by
  unfold parse6
  rw [join_dbl h 0]
  simp only
  rw [groups_join h, hg]
  simp only
  rw [if_pos hl]
theorem parse_cols {P Q : List (List UInt8)} (hP : Cols P) (hQ : Cols Q) {g q : List Nat} (hg : grpGo P false = some g) (hq : grpGo Q true = some q) (hl : g.length + q.length ≤ 7) :
    parse6 (joinL 58 P ++ 58 :: 58 :: joinL 58 Q) = some (g ++ (zerosN (8 - g.length - q.length) ++ q)) := by
  unfold parse6
  rw [dbl_before _ _ 0 (join_dbl hP 0) (join_last hP)]
  simp only [Nat.zero_add]
  have e1 : (joinL 58 P ++ 58 :: 58 :: joinL 58 Q).take (joinL 58 P).length = joinL 58 P := by rw [List.take_append_of_le_length (Nat.le_refl _), List.take_length]
  have e2 : (joinL 58 P ++ 58 :: 58 :: joinL 58 Q).drop ((joinL 58 P).length + 2) = joinL 58 Q := by
    rw [← List.drop_drop, List.drop_append_of_le_length (Nat.le_refl _), List.drop_length]; rfl
  rw [e1, e2, groups_join hP, hg]
  simp only
  rw [groups_join hQ, hq]
  simp only
  rw [if_pos hl]
/-- Groups, each spelt as a group. -/
def Grps (P : List (List UInt8)) (g : List Nat) : Prop := P.map hexL = g.map some
theorem hexL_not4 {x : List UInt8} {g : Nat} (h : hexL x = some g) : parseL x = none := by
  cases hp : parseL x with
  | none => rfl
  | some v =>
    have hx := (parseL_some hp).2
    unfold hexL at h
    split at h
    · rename_i hc
      have h46 : (46 : UInt8) ∈ x := by rw [hx]; unfold fmtI; simp [joinL]
      have := List.all_eq_true.1 hc.2 46 h46
      exact absurd this (by decide)
    · cases h
theorem grp_ok : ∀ (P : List (List UInt8)) (g : List Nat) (last : Bool), Grps P g → grpGo P last = some g
  | [], g, _, h => by
    unfold Grps at h
    have : g = [] := by cases g with
      | nil => rfl
      | cons => simp at h
    subst this; rfl
  | [x], g, last, h => by
    unfold Grps at h
    match g, h with
    | [y], h =>
      have hx : hexL x = some y := by simpa using h
      have h4 := hexL_not4 hx
      rw [grpGo]
      have : (if last = true then parseL x else none) = none := by split <;> simp [h4]
      rw [this, hx]
    | _ :: _ :: _, h => simp at h
  | x :: y :: r, g, last, h => by
    unfold Grps at h
    match g, h with
    | z :: g, h =>
      have hx : hexL x = some z := by simp at h; exact h.1
      have hr : Grps (y :: r) g := by unfold Grps; simp at h ⊢; exact h.2
      rw [grpGo, hx, grp_ok (y :: r) g last hr]
theorem Grps.append {P Q : List (List UInt8)} {g q : List Nat} (h : Grps P g) (h2 : Grps Q q) : Grps (P ++ Q) (g ++ q) := by
  unfold Grps at h h2 ⊢
  rw [List.map_append, List.map_append, h, h2]
theorem grp_dot : ∀ (P : List (List UInt8)) (g : List Nat) (v : Nat), Grps P g → v < 4294967296 → grpGo (P ++ [fmtI v]) true = some (g ++ [v / 65536, v % 65536])
  | [], g, v, h, hv => by
    unfold Grps at h
    have : g = [] := by cases g with
      | nil => rfl
      | cons => simp at h
    subst this
    rw [List.nil_append, grpGo, if_pos rfl, parse_fmtI v hv]; rfl
  | x :: r, g, v, h, hv => by
    unfold Grps at h
    match g, h with
    | z :: g, h =>
      have hx : hexL x = some z := by simp at h; exact h.1
      have hr : Grps r g := by unfold Grps; simp at h ⊢; exact h.2
      have ih := grp_dot r g v hr hv
      rw [List.cons_append]
      cases hc : r ++ [fmtI v] with
      | nil => simp at hc
      | cons y s =>
        rw [grpGo, hx, ← hc, ih]; rfl
/-- The text of a group is read back. -/
theorem hexT_len (v : Nat) (hv : v < 65536) : 1 ≤ (hexT v).length ∧ (hexT v).length ≤ 4 := by
  have h0 := digs_ne (b := 16) (by omega) v (by omega)
  refine ⟨List.length_pos_iff.2 h0, ?_⟩
  have key : ∀ (k m : Nat), m < 16 ^ (k + 1) → m < 1099511627776 → (digsB 16 m).length ≤ k + 1 := by
    intro k
    induction k with
    | zero => intro m h _; rw [digsB_small (by simpa using h)]; simp
    | succ k ih =>
      intro m h hm
      by_cases hs : m < 16
      · rw [digsB_small hs]; simp
      · rw [digsB_step (by omega) hm hs, List.length_append]
        have := ih (m / 16) (by rw [Nat.pow_succ] at h; omega) (by omega)
        simp; omega
  exact key 3 v (by have : (16 : Nat) ^ (3 + 1) = 65536 := by decide
                    omega) (by omega)
theorem hexT_hex (v : Nat) (hv : v < 65536) : hexL (hexT v) = some v := by
  unfold hexL
  rw [if_pos ⟨hexT_len v hv, digs_dig (by omega) (by omega) v (by omega)⟩]
  unfold hexT
  rw [digs_val (by omega) (by omega) v (by omega)]
theorem hex_noB : ∀ d : Fin 16, hexc d.val ≠ 58 := by decide +kernel
theorem hexT_noB (v : Nat) (hv : v < 65536) : noB 58 (hexT v) := by
  have h := digs_all (b := 16) (by omega) (by omega) (fun c => decide (c ≠ 58)) (fun d hd => decide_eq_true (hex_noB ⟨d, hd⟩)) v (by omega)
  rw [List.all_eq_true] at h
  intro c hc
  exact of_decide_eq_true (h c hc)
theorem hexT_ne (v : Nat) (hv : v < 65536) : hexT v ≠ [] := digs_ne (by omega) v (by omega)
/-- Groups of 16 bits. -/
def G16 (a : List Nat) : Prop := ∀ x ∈ a, x < 65536
theorem G16.cols {a : List Nat} (h : G16 a) : Cols (a.map hexT) := by
  intro x hx
  obtain ⟨v, hv, rfl⟩ := List.mem_map.1 hx
  exact ⟨hexT_ne v (h v hv), hexT_noB v (h v hv)⟩
theorem G16.grps {a : List Nat} (h : G16 a) : Grps (a.map hexT) a := by
  unfold Grps
  rw [List.map_map]
  exact List.map_congr_left fun v hv => hexT_hex v (h v hv)
theorem G16.take {a : List Nat} (h : G16 a) (k : Nat) : G16 (a.take k) := fun x hx => h x (List.mem_of_mem_take hx)
theorem G16.drop {a : List Nat} (h : G16 a) (k : Nat) : G16 (a.drop k) := fun x hx => h x (List.mem_of_mem_drop hx)
/-- Parse reads back what Format writes. -/
theorem parse_fmt6 (a : List Nat) (h : G16 a) (hl : a.length = 8) : parse6 (fmt6 a) = some a := by
  unfold fmt6 txt6
  rcases best_is a 8 with e | ⟨i, m, hi, e, h2, hm⟩
  · rw [e]
    simp only
    rw [if_pos (.inl (by decide)), List.take_of_length_le (by omega)]
    exact parse_plain h.cols (grp_ok _ _ _ h.grps) hl
  · rw [e]
    simp only
    have hmz := zrun_le (a.drop i)
    rw [← hm, List.length_drop] at hmz
    rw [if_neg (by omega), Int.toNat_natCast, List.take_of_length_le (by omega : a.length ≤ 8)]
    have hp := parse_cols (h.take i).cols (h.drop (i + m)).cols (grp_ok _ _ false (h.take i).grps) (grp_ok _ _ true (h.drop (i + m)).grps) (by simp; omega)
    rw [hp]
    congr 1
    have hz := zrun_zero (a.drop i)
    rw [← hm] at hz
    have e1 : 8 - (a.take i).length - (a.drop (i + m)).length = m := by simp; omega
    rw [e1, ← hz, ← List.drop_drop, List.take_append_drop, List.take_append_drop]
theorem fmt6_inj {a b : List Nat} (ha : G16 a) (hb : G16 b) (la : a.length = 8) (lb : b.length = 8) (h : fmt6 a = fmt6 b) : a = b := by
  have := parse_fmt6 a ha la
  rw [h, parse_fmt6 b hb lb] at this
  injection this with e
  exact e.symm
end

section
open Go.RowKit

/-- A host. -/
structure Hv where
  kind : Int
  name : List UInt8
  v4 : Nat
  v6 : List Nat
def z8 : List Nat := zerosN 8
def hv0 : Hv := ⟨0, [], 0, z8⟩
def hvD (n : List UInt8) : Hv := ⟨1, n, 0, z8⟩
def hv4 (v : Nat) : Hv := ⟨2, [], v, z8⟩
def hv6 (g : List Nat) : Hv := ⟨3, [], 0, g⟩
def Hv.Wf (h : Hv) : Prop := h.v4 < 4294967296 ∧ h.v6.length = 8 ∧ G16 h.v6

/-- Percent signs with two digits are replaced. -/
def pctGo : Nat → List UInt8 → Option (List UInt8)
  | _, [] => some []
  | 0, _ :: _ => none
  | f + 1, b :: r => if b ≠ 37 then (pctGo f r).map (b :: ·)
    else if 2 ≤ r.length ∧ digV (r.getD 0 0) < 16 ∧ digV (r.getD 1 0) < 16 then (pctGo f (r.drop 2)).map (UInt8.ofNat (16 * digV (r.getD 0 0) + digV (r.getD 1 0)) :: ·) else none
def pctL (l : List UInt8) : Option (List UInt8) := pctGo l.length l
theorem pctGo_fuel : ∀ (f g : Nat) (l : List UInt8), l.length ≤ f → l.length ≤ g → pctGo f l = pctGo g l
  | f, g, [], _, _ => by cases f <;> cases g <;> rfl
  | 0, g, b :: l, h, _ => by simp at h
  | f, 0, b :: l, _, h => by simp at h
  | f + 1, g + 1, b :: l, hf, hg => by
    rw [pctGo, pctGo]
    simp only [List.length_cons] at hf hg
    rw [pctGo_fuel f g l (by omega) (by omega), pctGo_fuel f g (l.drop 2) (by rw [List.length_drop]; omega) (by rw [List.length_drop]; omega)]
theorem pctL_nil : pctL [] = some [] := rfl
theorem pctL_cons (b : UInt8) (r : List UInt8) (h : b ≠ 37) : pctL (b :: r) = (pctL r).map (b :: ·) := by
  unfold pctL
  rw [List.length_cons, pctGo, if_pos h]
theorem pctL_pct (x y : UInt8) (t : List UInt8) (hx : digV x < 16) (hy : digV y < 16) : pctL (37 :: x :: y :: t) = (pctL t).map (UInt8.ofNat (16 * digV x + digV y) :: ·) := by
  unfold pctL
  rw [List.length_cons, pctGo, if_neg (by simp), if_pos ⟨by simp, hx, hy⟩]
  rw [show (x :: y :: t).drop 2 = t from rfl, pctGo_fuel (x :: y :: t).length t.length t (by simp; omega) (Nat.le_refl _)]
  rfl
theorem pctL_bad (r : List UInt8) (h : ¬ (2 ≤ r.length ∧ digV (r.getD 0 0) < 16 ∧ digV (r.getD 1 0) < 16)) : pctL (37 :: r) = none := by
  unfold pctL
  rw [List.length_cons, pctGo, if_neg (by simp), if_neg h]
theorem pctL_self : ∀ (l : List UInt8), (∀ b ∈ l, b ≠ 37) → pctL l = some l
  | [], _ => rfl
  | b :: l, h => by rw [pctL_cons b l (h b (by simp)), pctL_self l (fun c hc => h c (by simp [hc]))]; rfl

/-- The canonical forms of labels, or the first error. -/
def namesGo : List (List UInt8) → Nat × List (List UInt8)
  | [] => (0, [])
  | l :: r => if (toA l).1 = 0 then (if (namesGo r).1 = 0 then (0, (toA l).2 :: (namesGo r).2) else ((namesGo r).1, [])) else ((toA l).1, [])
theorem names_low : ∀ p : List (List UInt8), namesGo (p.map lowL) = namesGo p
  | [] => rfl
  | l :: r => by rw [List.map_cons, namesGo, namesGo, toA_low, names_low r]
theorem names_self : ∀ p : List (List UInt8), (∀ x ∈ p, labL x = true) → namesGo p = (0, p)
  | [], _ => rfl
  | l :: r, h => by rw [namesGo, toA_lab (h l (by simp)), names_self r (fun x hx => h x (by simp [hx]))]; rfl
theorem names_lab : ∀ (p q : List (List UInt8)), namesGo p = (0, q) → (∀ x ∈ q, labL x = true) ∧ q.length = p.length
  | [], q, h => by
    obtain ⟨_, rfl⟩ := Prod.mk.inj h
    exact ⟨by simp, rfl⟩
  | l :: r, q, h => by
    rw [namesGo] at h
    split at h
    · rename_i h0
      split at h
      · rename_i h1
        obtain ⟨_, rfl⟩ := Prod.mk.inj h
        obtain ⟨i1, i2⟩ := names_lab r (namesGo r).2 (by rw [← h1])
        refine ⟨?_, by rw [List.length_cons, i2, List.length_cons]⟩
        intro x hx
        rcases List.mem_cons.1 hx with rfl | hx
        · rcases toA_cases l with ⟨_, h2⟩ | ⟨h2, _⟩
          · exact h2
          · exact absurd h0 h2
        · exact i1 x hx
      · rename_i h1
        obtain ⟨h2, _⟩ := Prod.mk.inj h
        exact absurd h2 h1
    · rename_i h0
      obtain ⟨h2, _⟩ := Prod.mk.inj h
      exact absurd h2 h0

/-- A canonical domain name. -/
def vnL (n : List UInt8) : Bool := decide (n ≠ []) && decide (n.length ≤ 253) && !numericL n && (splitL 46 n).all labL
structure Vn (n : List UInt8) : Prop where
  ne : n ≠ []
  len : n.length ≤ 253
  num : numericL n = false
  lab : ∀ x ∈ splitL 46 n, labL x = true
theorem vn_iff (n : List UInt8) : vnL n = true ↔ Vn n := by
  unfold vnL
  simp only [Bool.and_eq_true, decide_eq_true_eq, Bool.not_eq_true', List.all_eq_true]
  exact ⟨fun ⟨⟨⟨a, b⟩, c⟩, d⟩ => ⟨a, b, c, d⟩, fun h => ⟨⟨⟨h.ne, h.len⟩, h.num⟩, h.lab⟩⟩
theorem lab_okN {l : List UInt8} (h : labL l = true) : ∀ b ∈ l, okN b.toNat = true := by
  unfold labL at h
  simp only [Bool.and_eq_true] at h
  exact fun b hb => List.all_eq_true.1 h.1.2 b hb
theorem lab_ne {l : List UInt8} (h : labL l = true) : l ≠ [] := by
  rintro rfl
  cases h
theorem okN_not {b : UInt8} (h : okN b.toNat = true) : b ≠ 37 ∧ b ≠ 46 ∧ b ≠ 91 ∧ b ≠ 93 := by
  unfold okN at h
  simp only [Bool.or_eq_true, Bool.and_eq_true, decide_eq_true_eq, beq_iff_eq] at h
  refine ⟨?_, ?_, ?_, ?_⟩ <;> (rintro rfl; revert h; decide)
theorem mem_joinL (c : UInt8) : ∀ (p : List (List UInt8)) (b : UInt8), b ∈ joinL c p → b = c ∨ ∃ x ∈ p, b ∈ x
  | [], b, h => by cases h
  | [a], b, h => .inr ⟨a, by simp, h⟩
  | a :: d :: r, b, h => by
    rw [joinL, List.mem_append, List.mem_cons] at h
    rcases h with h | h | h
    · exact .inr ⟨a, by simp, h⟩
    · exact .inl h
    · rcases mem_joinL c (d :: r) b h with h | ⟨x, hx, hb⟩
      · exact .inl h
      · exact .inr ⟨x, by simp at hx ⊢; exact .inr hx, hb⟩
theorem labs_noB {p : List (List UInt8)} (h : ∀ x ∈ p, labL x = true) : ∀ x ∈ p, noB 46 x := fun x hx b hb => (okN_not (lab_okN (h x hx) b hb)).2.1
theorem labs_bytes {p : List (List UInt8)} (h : ∀ x ∈ p, labL x = true) : ∀ b ∈ joinL 46 p, b = 46 ∨ okN b.toNat = true := by
  intro b hb
  rcases mem_joinL 46 p b hb with hb | ⟨x, hx, hb⟩
  · exact .inl hb
  · exact .inr (lab_okN (h x hx) b hb)
theorem Vn.bytes {n : List UInt8} (h : Vn n) : ∀ b ∈ n, b = 46 ∨ okN b.toNat = true := by
  have := labs_bytes h.lab
  rwa [join_splitL] at this
theorem Vn.byte_not {n : List UInt8} (h : Vn n) : ∀ b ∈ n, b ≠ 37 ∧ b ≠ 91 ∧ b ≠ 93 := by
  intro b hb
  rcases h.bytes b hb with rfl | hb
  · decide
  · exact ⟨(okN_not hb).1, (okN_not hb).2.2.1, (okN_not hb).2.2.2⟩
theorem Vn.low {n : List UInt8} (h : Vn n) : ∀ b ∈ n, lowU b = b ∧ b.toNat < 128 := by
  intro b hb
  rcases h.bytes b hb with rfl | hb
  · exact ⟨by decide, by decide⟩
  · have := okN_ascii hb
    exact ⟨lowU_small (by omega), this.1⟩
theorem split_dot_lab {m : List UInt8} (h : ∀ x ∈ splitL 46 (m ++ [46]), labL x = true) : False := by
  have : splitL 46 (m ++ [46]) = splitL 46 m ++ [[]] := splitG_dot 46 m []
  rw [this] at h
  exact lab_ne (h [] (by simp)) rfl
theorem Vn.last {n : List UInt8} (h : Vn n) : n.getLast? ≠ some 46 := by
  intro hl
  obtain ⟨m, rfl⟩ := List.getLast?_eq_some_iff.1 hl
  exact split_dot_lab h.lab
theorem undot_self {n : List UInt8} (h : n.getLast? ≠ some 46) : undot n = n := by unfold undot; rw [if_neg h]
theorem vn_join {q : List (List UInt8)} (h : ∀ x ∈ q, labL x = true) (hq : q ≠ []) (hl : (joinL 46 q).length ≤ 253) (hn : numericL (joinL 46 q) = false) : Vn (joinL 46 q) := by
  refine ⟨?_, hl, hn, ?_⟩
  · cases q with
    | nil => exact absurd rfl hq
    | cons a r =>
      have ha := lab_ne (h a (by simp))
      cases r with
      | nil => exact ha
      | cons b r => rw [joinL]; simp
  · rw [split_joinL 46 q hq (labs_noB h)]
    exact h

/-- What parsing answers. -/
def parseD (s : List UInt8) : Nat × Hv :=
  if numericL s = true then (match pnL s with
    | none => (14, hv0)
    | some v => (0, hv4 v))
  else if (namesGo (splitL 46 s)).1 = 0 then
    (if 253 < (joinL 46 (namesGo (splitL 46 s)).2).length then (3, hv0) else if numericL (joinL 46 (namesGo (splitL 46 s)).2) = true then (14, hv0) else (0, hvD (joinL 46 (namesGo (splitL 46 s)).2)))
  else ((namesGo (splitL 46 s)).1, hv0)
def parse6H (raw : List UInt8) : Nat × Hv := if raw.getLast? ≠ some 93 ∨ raw.length < 2 then (14, hv0) else match parse6 ((raw.drop 1).dropLast) with
  | none => (14, hv0)
  | some g => (0, hv6 g)
def parseH (raw : List UInt8) : Nat × Hv :=
  if 1024 < raw.length then (3, hv0)
  else if raw.head? = some 91 then parse6H raw
  else match pctL raw with
    | none => (14, hv0)
    | some s => parseD (undot s)
def validH (h : Hv) : Bool := if h.kind = 1 then vnL h.name && h.v4 == 0 && h.v6 == z8 else if h.kind = 2 then h.name.isEmpty && h.v6 == z8 else if h.kind = 3 then h.name.isEmpty && h.v4 == 0 else false
def fmtT (h : Hv) : List UInt8 := if h.kind = 1 then h.name else if h.kind = 2 then fmtI h.v4 else 91 :: (fmt6 h.v6 ++ [93])
def fmtH (h : Hv) : List UInt8 := if validH h = true then fmtT h else []

/-! ### small letters do not matter for numbers -/
theorem digV_low (b : UInt8) : digV (lowU b) = digV b := by
  have key : ∀ n : Fin 256, digV (lowU (UInt8.ofNat n.val)) = digV (UInt8.ofNat n.val) := by decide +kernel
  have := key ⟨b.toNat, b.toNat_lt⟩
  simpa using this
theorem digitU_low (b : UInt8) : digitU (lowU b) = digitU b := by
  have key : ∀ n : Fin 256, digitU (lowU (UInt8.ofNat n.val)) = digitU (UInt8.ofNat n.val) := by decide +kernel
  have := key ⟨b.toNat, b.toNat_lt⟩
  simpa using this
theorem isX_low (b : UInt8) : (lowU b == 120 || lowU b == 88) = (b == 120 || b == 88) := by
  have key : ∀ n : Fin 256, (lowU (UInt8.ofNat n.val) == 120 || lowU (UInt8.ofNat n.val) == 88) = (UInt8.ofNat n.val == 120 || UInt8.ofNat n.val == 88) := by decide +kernel
  have := key ⟨b.toNat, b.toNat_lt⟩
  simpa using this
theorem is48_low (b : UInt8) : lowU b = 48 ↔ b = 48 := by
  have key : ∀ n : Fin 256, (lowU (UInt8.ofNat n.val) = 48 ↔ UInt8.ofNat n.val = 48) := by decide +kernel
  have := key ⟨b.toNat, b.toNat_lt⟩
  simpa using this
theorem is46_low (b : UInt8) : lowU b = 46 ↔ b = 46 := by
  have key : ∀ n : Fin 256, (lowU (UInt8.ofNat n.val) = 46 ↔ UInt8.ofNat n.val = 46) := by decide +kernel
  have := key ⟨b.toNat, b.toNat_lt⟩
  simpa using this
theorem all_low (q : UInt8 → Bool) (hq : ∀ b, q (lowU b) = q b) (l : List UInt8) : (lowL l).all q = l.all q := by
  unfold lowL
  rw [List.all_map]
  congr 1
  funext b
  exact hq b
theorem numL_some_low (l : List UInt8) : (numL (lowL l)).isSome = (numL l).isSome := by
  have hb : ∀ (base : Nat) (m : List UInt8), (lowL m).all (fun c => decide (digV c < base)) = m.all (fun c => decide (digV c < base)) := fun base m => all_low _ (fun b => by rw [digV_low]) m
  have hi : ∀ (m : List UInt8), m ≠ [] → (numL m).isSome = (baseL m).2.all (fun c => decide (digV c < (baseL m).1)) := by
    intro m hm
    unfold numL
    rw [if_neg hm]
    cases (baseL m).2.all (fun c => decide (digV c < (baseL m).1)) <;> rfl
  cases l with
  | nil => rfl
  | cons a r =>
    have e0 : lowL (a :: r) = lowU a :: lowL r := rfl
    rw [hi (lowL (a :: r)) (by rw [e0]; simp), hi (a :: r) (by simp)]
    by_cases ha : a = 48
    · subst ha
      cases r with
      | nil => rfl
      | cons b r =>
        have e1 : lowL (48 :: b :: r) = 48 :: lowU b :: lowL r := rfl
        have hx := isX_low b
        by_cases hbx : b = 120 ∨ b = 88
        · have hbx2 : lowU b = 120 ∨ lowU b = 88 := by rcases hbx with rfl | rfl <;> decide
          rw [e1, baseL_16 b r hbx, baseL_16 _ (lowL r) hbx2]
          exact hb 16 r
        · have hbx2 : ¬ (lowU b = 120 ∨ lowU b = 88) := by
            intro h
            have : (lowU b == 120 || lowU b == 88) = true := by simpa using h
            rw [hx] at this
            exact hbx (by simpa using this)
          rw [e1, baseL_8 b r hbx, baseL_8 _ (lowL r) hbx2]
          exact hb 8 (b :: r)
    · have e1 : baseL (a :: r) = (10, a :: r) := baseL_ten _ (.inl (by simpa using ha))
      have e2 : baseL (lowL (a :: r)) = (10, lowL (a :: r)) := baseL_ten _ (.inl (by
        show some (lowU a) ≠ some 48
        intro h
        injection h with h
        exact ha ((is48_low a).1 h)))
      rw [e1, e2]
      exact hb 10 (a :: r)
theorem lastNum_low (l : List UInt8) : lastNum (lowL l) = lastNum l := by
  unfold lastNum
  rw [all_low _ digitU_low, numL_some_low, lowL_length]
  have h1 : (lowL l).isEmpty = l.isEmpty := by cases l <;> rfl
  have h2 : (lowL l).getD 1 0 = lowU (l.getD 1 0) := by
    unfold lowL
    cases l with
    | nil => decide
    | cons a r => cases r with
      | nil => show (0 : UInt8) = lowU 0; decide
      | cons b r => rfl
  rw [h1, h2, Bool.and_assoc, Bool.and_assoc]
  congr 2
  rw [isX_low]
theorem undot_low (l : List UInt8) : undot (lowL l) = lowL (undot l) := by
  rcases list_dot l with ⟨m, rfl⟩ | ⟨h, hu⟩
  · rw [lowL_append, undot_dot, show lowL [46] = [46] from by decide, undot_dot]
  · rw [hu]
    refine undot_self ?_
    intro h2
    apply h
    unfold lowL at h2
    rw [List.getLast?_map] at h2
    simp only [Option.map_eq_some_iff] at h2
    obtain ⟨b, hb, h3⟩ := h2
    rw [hb, (is46_low b).1 h3]
theorem split_low (l : List UInt8) : splitL 46 (lowL l) = (splitL 46 l).map lowL := by
  have key : ∀ (l cur : List UInt8), splitG 46 (lowL l) (lowL cur) = (splitG 46 l cur).map lowL := by
    intro l
    induction l with
    | nil => intro cur; rfl
    | cons b l ih =>
      intro cur
      rw [show lowL (b :: l) = lowU b :: lowL l from rfl, splitG, splitG]
      by_cases hc : b = 46
      · rw [if_pos ((is46_low b).2 hc), if_pos hc, List.map_cons]
        congr 1
        exact ih []
      · rw [if_neg (fun e => hc ((is46_low b).1 e)), if_neg hc]
        have := ih (cur ++ [b])
        rw [lowL_append] at this
        exact this
  exact key l []
theorem numeric_low (l : List UInt8) : numericL (lowL l) = numericL l := by
  unfold numericL
  rw [parts_undot, parts_undot, undot_low, split_low]
  have : ((splitL 46 (undot l)).map lowL).getLastD [] = lowL ((splitL 46 (undot l)).getLastD []) := by
    rw [List.getLastD_eq_getLast?, List.getLastD_eq_getLast?, List.getLast?_map]
    cases (splitL 46 (undot l)).getLast? with
    | none => rfl
    | some x => rfl
  rw [this, lastNum_low]

theorem parseD_name {n : List UInt8} (h : Vn n) (s : List UInt8) (hs : lowL s = n) (hnum : numericL s = false) : parseD s = (0, hvD n) := by
  have hsp : splitL 46 n = (splitL 46 s).map lowL := by rw [← hs]; exact split_low s
  have hnm : namesGo (splitL 46 s) = (0, splitL 46 n) := by
    rw [← names_low, ← hsp]
    exact names_self _ h.lab
  unfold parseD
  rw [if_neg (by rw [hnum]; simp), hnm]
  simp only [join_splitL]
  rw [if_pos trivial, if_neg (by have := h.len; omega), if_neg (by rw [h.num]; simp)]
theorem Vn.lowL {n : List UInt8} (h : Vn n) : lowL n = n := by
  unfold Go.Proofs.YtpccpgihldpiiaaGreatDoor.lowL
  have : n.map lowU = n.map id := List.map_congr_left fun b hb => (h.low b hb).1
  rw [this, List.map_id]

/-! ### the laws -/
/-- A name in whatever spelling. -/
theorem parse_spell {n m raw : List UInt8} (h : Vn n) (hl : raw.length ≤ 1024) (hh : raw.head? ≠ some 91) (hm : lowL m = n) (hp : pctL raw = some m ∨ pctL raw = some (m ++ [46])) : parseH raw = (0, hvD n) := by
  have hlast : m.getLast? ≠ some 46 := by
    intro h2
    obtain ⟨x, rfl⟩ := List.getLast?_eq_some_iff.1 h2
    apply h.last
    rw [← hm, lowL_append, show lowL [46] = [46] from by decide]
    simp
  have hnum : numericL m = false := by rw [← numeric_low, hm]; exact h.num
  unfold parseH
  rw [if_neg (by omega), if_neg hh]
  rcases hp with hp | hp
  · rw [hp]
    simp only [undot_self hlast]
    exact parseD_name h m hm hnum
  · rw [hp]
    simp only [undot_dot]
    exact parseD_name h m hm hnum
theorem parse_vn {n : List UInt8} (h : Vn n) : parseH n = (0, hvD n) := by
  refine parse_spell h (by have := h.len; omega) ?_ h.lowL (.inl (pctL_self n fun b hb => (h.byte_not b hb).1))
  intro hh
  cases n with
  | nil => cases hh
  | cons b r =>
    injection hh with hh
    exact (h.byte_not b (by simp)).2.1 hh
theorem dec_byte (u : Nat) : ∀ b ∈ Lib.decDigits u, 48 ≤ b.toNat ∧ b.toNat ≤ 57 := by
  intro b hb
  have h := List.all_eq_true.1 (dec_all u) b hb
  have h2 := of_decide_eq_true h
  unfold digV at h2
  split at h2
  · rename_i h3; exact h3
  · split at h2
    · omega
    · split at h2 <;> omega
theorem fmtI_bytes (v : Nat) : ∀ b ∈ fmtI v, b = 46 ∨ (48 ≤ b.toNat ∧ b.toNat ≤ 57) := by
  intro b hb
  unfold fmtI at hb
  rcases mem_joinL 46 _ b hb with hb | ⟨x, hx, hb⟩
  · exact .inl hb
  · simp only [List.mem_cons, List.not_mem_nil, or_false] at hx
    rcases hx with rfl | rfl | rfl | rfl <;> exact .inr (dec_byte _ b hb)
theorem fmtI_not (v : Nat) : ∀ b ∈ fmtI v, b ≠ 37 ∧ b ≠ 91 := by
  intro b hb
  rcases fmtI_bytes v b hb with rfl | h
  · decide
  · refine ⟨?_, ?_⟩ <;> (rintro rfl; revert h; decide)
theorem dec_l3 {u : Nat} (h : u < 256) : (Lib.decDigits u).length ≤ 3 := by
  have key : ∀ n : Fin 256, (Lib.decDigits n.val).length ≤ 3 := by decide +kernel
  exact key ⟨u, h⟩
theorem fmtI_len {v : Nat} (h : v < 4294967296) : (fmtI v).length ≤ 15 := by
  unfold fmtI
  simp only [joinL, List.length_append, List.length_cons]
  have h1 := dec_l3 (u := v / 16777216) (by omega)
  have h2 := dec_l3 (u := v / 65536 % 256) (by omega)
  have h3 := dec_l3 (u := v / 256 % 256) (by omega)
  have h4 := dec_l3 (u := v % 256) (by omega)
  omega
theorem parse_fmtI4 {v : Nat} (h : v < 4294967296) : parseH (fmtI v) = (0, hv4 v) := by
  have hh : (fmtI v).head? ≠ some 91 := by
    intro hh
    cases hf : fmtI v with
    | nil => rw [hf] at hh; cases hh
    | cons b r =>
      rw [hf] at hh
      injection hh with hh
      exact (fmtI_not v b (by rw [hf]; simp)).2 hh
  have hlast : (fmtI v).getLast? ≠ some 46 := by
    intro h2
    obtain ⟨m, hm⟩ := List.getLast?_eq_some_iff.1 h2
    have h3 := split_fmtI v
    have h4 : splitL 46 (m ++ [46]) = splitL 46 m ++ [[]] := splitG_dot 46 m []
    rw [hm, h4] at h3
    have h5 := congrArg List.getLast? h3
    simp at h5
    have h6 := numL_dec (v % 256)
    rw [h5] at h6
    cases h6
  unfold parseH
  rw [if_neg (by have := fmtI_len h; omega), if_neg hh, pctL_self _ (fun b hb => (fmtI_not v b hb).1)]
  simp only [undot_self hlast]
  unfold parseD
  rw [if_pos (numeric_fmtI v), pn_fmtI v h]
theorem parse_fmt6H {g : List Nat} (hg : G16 g) (hl : g.length = 8) (hlen : (fmt6 g).length ≤ 100) : parseH (91 :: (fmt6 g ++ [93])) = (0, hv6 g) := by
  unfold parseH
  rw [if_neg (by simp; omega), if_pos (show (91 :: (fmt6 g ++ [93])).head? = some 91 from rfl)]
  unfold parse6H
  have e1 : (91 :: (fmt6 g ++ [93])).getLast? = some 93 := by rw [← List.cons_append, List.getLast?_append]; rfl
  have e2 : ((91 :: (fmt6 g ++ [93])).drop 1).dropLast = fmt6 g := by simp
  rw [if_neg (by rw [e1]; simp), e2, parse_fmt6 g hg hl]
theorem valid_kinds {h : Hv} (hv : validH h = true) : (Vn h.name ∧ h = hvD h.name) ∨ h = hv4 h.v4 ∨ h = hv6 h.v6 := by
  obtain ⟨k, n, v, g⟩ := h
  unfold validH at hv
  simp only at hv
  split at hv
  · rename_i hk
    simp only [Bool.and_eq_true, beq_iff_eq] at hv
    obtain ⟨⟨h1, h2⟩, h3⟩ := hv
    exact .inl ⟨(vn_iff n).1 h1, by unfold hvD; rw [hk, h2, h3]⟩
  · split at hv
    · rename_i _ hk
      simp only [Bool.and_eq_true, beq_iff_eq, List.isEmpty_iff] at hv
      exact .inr (.inl (by unfold hv4; rw [hk, hv.1, hv.2]))
    · split at hv
      · rename_i _ _ hk
        simp only [Bool.and_eq_true, beq_iff_eq, List.isEmpty_iff] at hv
        exact .inr (.inr (by unfold hv6; rw [hk, hv.1, hv.2]))
      · cases hv
theorem valid_D {n : List UInt8} (h : Vn n) : validH (hvD n) = true := by
  unfold validH hvD
  simp [(vn_iff n).2 h]
theorem valid_4 (v : Nat) : validH (hv4 v) = true := by
  unfold validH hv4
  simp
theorem valid_6 (g : List Nat) : validH (hv6 g) = true := by
  unfold validH hv6
  simp
/-- Parsing reads back the text of a valid host. -/
theorem parse_fmt {h : Hv} (hw : h.Wf) (hv : validH h = true) (hlen : (fmt6 h.v6).length ≤ 100) : parseH (fmtH h) = (0, h) := by
  unfold fmtH
  rw [if_pos hv]
  rcases valid_kinds hv with ⟨hn, e⟩ | e | e
  · have e2 : fmtT h = h.name := by rw [e]; rfl
    rw [e2, parse_vn hn, ← e]
  · have e2 : fmtT h = fmtI h.v4 := by rw [e]; rfl
    rw [e2, parse_fmtI4 hw.1, ← e]
  · have e2 : fmtT h = 91 :: (fmt6 h.v6 ++ [93]) := by rw [e]; rfl
    rw [e2, parse_fmt6H hw.2.2 hw.2.1 hlen, ← e]
theorem hexL_lt {l : List UInt8} {v : Nat} (h : hexL l = some v) : v < 65536 := by
  unfold hexL at h
  split at h
  · rename_i hc
    injection h with h
    subst h
    have key : ∀ (l : List UInt8) (a : Nat), l.all (fun c => decide (digV c < 16)) = true → valB 16 a l < (a + 1) * 16 ^ l.length := by
      intro l
      induction l with
      | nil => intro a _; rw [valB]; simp
      | cons c l ih =>
        intro a h
        rw [List.all_cons, Bool.and_eq_true] at h
        have hc := of_decide_eq_true h.1
        have h2 := ih (a * 16 + digV c) h.2
        rw [valB, List.length_cons, Nat.pow_succ]
        have h3 : (a * 16 + digV c + 1) * 16 ^ l.length ≤ ((a + 1) * 16) * 16 ^ l.length := Nat.mul_le_mul_right _ (by omega)
        have h4 : (a + 1) * 16 * 16 ^ l.length = (a + 1) * (16 ^ l.length * 16) := by rw [Nat.mul_assoc, Nat.mul_comm 16]
        omega
    have h1 := key l 0 hc.2
    have h2 : 16 ^ l.length ≤ 16 ^ 4 := Nat.pow_le_pow_right (by omega) hc.1.2
    have h3 : (16 : Nat) ^ 4 = 65536 := rfl
    omega
  · cases h
theorem grpGo_16 : ∀ (p : List (List UInt8)) (last : Bool) (g : List Nat), grpGo p last = some g → G16 g
  | [], last, g, h => by
    injection h with h
    subst h
    intro x hx
    cases hx
  | [x], last, g, h => by
    rw [grpGo] at h
    split at h
    · rename_i v hv
      injection h with h
      subst h
      have hlt : v < 4294967296 := by
        split at hv
        · exact (parseL_some hv).1
        · cases hv
      intro y hy
      simp only [List.mem_cons, List.not_mem_nil, or_false] at hy
      omega
    · split at h
      · rename_i v hv
        injection h with h
        subst h
        intro y hy
        simp only [List.mem_cons, List.not_mem_nil, or_false] at hy
        rw [hy]
        exact hexL_lt hv
      · cases h
  | x :: y :: r, last, g, h => by
    rw [grpGo] at h
    split at h
    · cases h
    · rename_i v hv
      split at h
      · cases h
      · rename_i m hm
        injection h with h
        subst h
        intro z hz
        rcases List.mem_cons.1 hz with rfl | hz
        · exact hexL_lt hv
        · exact grpGo_16 (y :: r) last m hm z hz
theorem groupsL_16 {l : List UInt8} {last : Bool} {g : List Nat} (h : groupsL l last = some g) : G16 g := by
  unfold groupsL at h
  split at h
  · injection h with h
    subst h
    intro x hx
    cases hx
  · exact grpGo_16 _ _ _ h
theorem parse6_wf {l : List UInt8} {g : List Nat} (h : parse6 l = some g) : g.length = 8 ∧ G16 g := by
  unfold parse6 at h
  split at h
  · split at h
    · rename_i m hm
      split at h
      · rename_i h8
        injection h with h
        subst h
        exact ⟨h8, groupsL_16 hm⟩
      · cases h
    · cases h
  · split at h
    · cases h
    · rename_i a ha
      split at h
      · cases h
      · rename_i b hb
        split at h
        · rename_i h7
          injection h with h
          subst h
          refine ⟨by simp [zerosN]; omega, ?_⟩
          intro x hx
          simp only [List.mem_append] at hx
          rcases hx with hx | hx | hx
          · exact groupsL_16 ha x hx
          · have := (List.mem_replicate.1 hx).2
            omega
          · exact groupsL_16 hb x hx
        · cases h
theorem z8_wf : z8.length = 8 ∧ G16 z8 := ⟨rfl, by intro x hx; have := (List.mem_replicate.1 hx).2; omega⟩
theorem hv0_wf : hv0.Wf := ⟨by decide, z8_wf.1, z8_wf.2⟩
/-- Whatever parsing answers can be read, and is valid where there is no error. -/
theorem parse_valid (raw : List UInt8) : (parseH raw).2.Wf ∧ ((parseH raw).1 = 0 ∧ validH (parseH raw).2 = true ∨ (parseH raw).1 ≠ 0 ∧ (parseH raw).2 = hv0) := by
  have bad : ∀ e : Nat, e ≠ 0 → ((e, hv0) : Nat × Hv).2.Wf ∧ (((e, hv0) : Nat × Hv).1 = 0 ∧ validH ((e, hv0) : Nat × Hv).2 = true ∨ ((e, hv0) : Nat × Hv).1 ≠ 0 ∧ ((e, hv0) : Nat × Hv).2 = hv0) := fun e he => ⟨hv0_wf, .inr ⟨he, rfl⟩⟩
  unfold parseH
  split
  · exact bad 3 (by decide)
  · split
    · unfold parse6H
      split
      · exact bad 14 (by decide)
      · split
        · exact bad 14 (by decide)
        · rename_i g hg
          have := parse6_wf hg
          exact ⟨⟨show (0 : Nat) < 4294967296 by omega, this.1, this.2⟩, .inl ⟨rfl, valid_6 g⟩⟩
    · split
      · exact bad 14 (by decide)
      · unfold parseD
        split
        · split
          · exact bad 14 (by decide)
          · rename_i v hv
            exact ⟨⟨pnL_range hv, z8_wf.1, z8_wf.2⟩, .inl ⟨rfl, valid_4 v⟩⟩
        · split
          · rename_i h0
            split
            · exact bad 3 (by decide)
            · split
              · exact bad 14 (by decide)
              · rename_i s _ _ hl hn
                obtain ⟨q1, q2⟩ := names_lab (splitL 46 (undot s)) (namesGo (splitL 46 (undot s))).2 (by rw [← h0])
                have hq : (namesGo (splitL 46 (undot s))).2 ≠ [] := by
                  intro e
                  rw [e] at q2
                  have := splitL_pos 46 (undot s)
                  simp at q2
                  omega
                exact ⟨⟨show (0 : Nat) < 4294967296 by omega, z8_wf.1, z8_wf.2⟩, .inl ⟨rfl, valid_D (vn_join q1 hq (by omega) (by simpa using hn))⟩⟩
          · rename_i h0
            exact bad _ h0
end

end Go.Proofs.YtpccpgihldpiiaaGreatDoor
