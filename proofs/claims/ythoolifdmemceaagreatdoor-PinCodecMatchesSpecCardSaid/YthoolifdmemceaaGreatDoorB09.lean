/-
IPv6 addresses in plain words: no program.
-/
import Derived.Test.YthoolifdmemceaaGreatDoorB07
import Derived.Test.YthoolifdmemceaaGreatDoorB08
namespace Go.Proofs.YthoolifdmemceaaGreatDoor
section
open Go.RowKit

/-- A group. -/
def hexL (l : List UInt8) : Option Nat := if (1 ≤ l.length ∧ l.length ≤ 4) ∧ l.all (fun c => decide (digV c < 16)) = true then some (valB 16 0 l) else none
def grpGo : List (List UInt8) → Bool → Option (List Nat)
  | [], _ => some []
  | [x], last => match (if last then parseL x else none) with
    | some v => some [v / 65536, v % 65536]
    | none => match hexL x with
      | some g => some [g]
      | none => none
  | x :: y :: r, last => match hexL x with
    | none => none
    | some g => match grpGo (y :: r) last with
      | none => none
      | some m => some (g :: m)
/-- Groups that are separated by colons. -/
def groupsL (l : List UInt8) (last : Bool) : Option (List Nat) := if l = [] then some [] else grpGo (splitL 58 l) last
/-- The first two colons. -/
def dblGo : List UInt8 → Nat → Option Nat
  | [], _ => none
  | [_], _ => none
  | a :: b :: r, i => if a = 58 ∧ b = 58 then some i else dblGo (b :: r) (i + 1)
def zerosN (n : Nat) : List Nat := List.replicate n 0
/-- The groups of an address. -/
def parse6 (l : List UInt8) : Option (List Nat) := match dblGo l 0 with
  | none => match groupsL l true with
    | some g => if g.length = 8 then some g else none
    | none => none
  | some k => match groupsL (l.take k) false with
    | none => none
    | some g => match groupsL (l.drop (k + 2)) true with
      | none => none
      | some h => if g.length + h.length ≤ 7 then some (g ++ (zerosN (8 - g.length - h.length) ++ h)) else none
/-- The text of a group. -/
def hexT (v : Nat) : List UInt8 := digsB 16 v
def zrun (l : List Nat) : Nat := (l.takeWhile fun x => x == 0).length
def bestStep (a : List Nat) (st : Int × Nat) (i : Nat) : Int × Nat := if st.2 < zrun (a.drop i) then ((i : Int), zrun (a.drop i)) else st
/-- The first longest run of groups 0. -/
def bestUpto (a : List Nat) (k : Nat) : Int × Nat := (List.range k).foldl (bestStep a) (-1, 1)
/-- The text up to group k, the m groups from at on given as two colons. -/
def txt6 (a : List Nat) (at_ : Int) (m k : Nat) : List UInt8 := if at_ < 0 ∨ (k : Int) ≤ at_ then joinL 58 ((a.take k).map hexT) else joinL 58 ((a.take at_.toNat).map hexT) ++ 58 :: 58 :: joinL 58 (((a.take k).drop (at_.toNat + m)).map hexT)
def fmt6 (a : List Nat) : List UInt8 := txt6 a (bestUpto a 8).1 (bestUpto a 8).2 8

theorem bestUpto_succ (a : List Nat) (k : Nat) : bestUpto a (k + 1) = bestStep a (bestUpto a k) k := by
  unfold bestUpto
  rw [List.range_succ, List.foldl_append]; rfl
theorem zrun_le (l : List Nat) : zrun l ≤ l.length := by
  unfold zrun
  induction l with
  | nil => simp
  | cons x r ih => rw [List.takeWhile_cons]; split <;> simp; omega
theorem zrun_zero (l : List Nat) : l.take (zrun l) = zerosN (zrun l) := by
  induction l with
  | nil => rfl
  | cons x r ih =>
    unfold zrun at ih ⊢
    rw [List.takeWhile_cons]
    by_cases h : (x == 0) = true
    · rw [if_pos h]
      have : x = 0 := by simpa using h
      subst this
      rw [List.length_cons, List.take_succ_cons, ih]; rfl
    · rw [if_neg h]; rfl
/-- What the best run is: none, or a run of two or more that begins within. -/
theorem best_is (a : List Nat) : ∀ k, (bestUpto a k = (-1, 1)) ∨ (∃ i m, i < k ∧ bestUpto a k = ((i : Int), m) ∧ 2 ≤ m ∧ m = zrun (a.drop i))
  | 0 => .inl rfl
  | k + 1 => by
    rw [bestUpto_succ]
    unfold bestStep
    split
    · rename_i h
      refine .inr ⟨k, _, by omega, rfl, ?_, rfl⟩
      rcases best_is a k with e | ⟨i, m, _, e, h2, _⟩
      · rw [e] at h; simp only at h; omega
      · rw [e] at h; simp only at h; omega
    · rcases best_is a k with e | ⟨i, m, hi, e, h2⟩
      · exact .inl e
      · exact .inr ⟨i, m, by omega, e, h2⟩
theorem bestUpto_pos (a : List Nat) (k : Nat) : 1 ≤ (bestUpto a k).2 := by
  rcases best_is a k with e | ⟨i, m, _, e, h, _⟩ <;> rw [e]
  · exact Nat.le_refl _
  · show 1 ≤ m; omega

/-- Two colons. -/
theorem dbl_shift : ∀ (l : List UInt8) (i : Nat), dblGo l i = (dblGo l 0).map (· + i)
  | [], _ => rfl
  | [_], _ => rfl
  | a :: b :: r, i => by
    unfold dblGo
    split
    · simp
    · rw [dbl_shift (b :: r) (i + 1), dbl_shift (b :: r) (0 + 1)]
      cases dblGo (b :: r) 0 with
      | none => rfl
      | some x => simp; omega
theorem dbl_before : ∀ (l r : List UInt8) (i : Nat), dblGo l i = none → l.getLast? ≠ some 58 → dblGo (l ++ 58 :: 58 :: r) i = some (i + l.length)
  | [], r, i, _, _ => by simp [dblGo]
  | [x], r, i, _, h => by
    have hx : x ≠ 58 := by simpa using h
    rw [List.cons_append, List.nil_append, dblGo, if_neg (fun e => hx e.1), dblGo, if_pos ⟨rfl, rfl⟩]; rfl
  | x :: y :: l, r, i, h, h2 => by
    have hne : ¬ (x = 58 ∧ y = 58) := by
      intro e
      rw [dblGo, if_pos e] at h
      cases h
    rw [dblGo, if_neg hne] at h
    have h3 : (y :: l).getLast? ≠ some 58 := by rwa [List.getLast?_cons_cons] at h2
    have ih := dbl_before (y :: l) r (i + 1) h h3
    rw [List.cons_append, List.cons_append, dblGo, if_neg hne]
    rw [List.cons_append] at ih
    rw [ih]
    simp; omega
theorem dbl_free : ∀ (a m : List UInt8) (i : Nat), noB 58 a → m.head? ≠ some 58 → dblGo m (i + a.length + 1) = none → dblGo (a ++ 58 :: m) i = none
  | [], [], i, _, _, _ => rfl
  | [], c :: m, i, _, h, h2 => by
    have hc : c ≠ 58 := by simpa using h
    rw [List.nil_append, dblGo, if_neg (fun e => hc e.2)]
    simpa using h2
  | [x], m, i, ha, h, h2 => by
    have hx : x ≠ 58 := ha x (by simp)
    rw [List.cons_append, List.nil_append, dblGo, if_neg (fun e => hx e.1)]
    have := dbl_free [] m (i + 1) (by intro b hb; simp at hb) h (by simpa using h2)
    simpa using this
  | x :: y :: a, m, i, ha, h, h2 => by
    have hx : x ≠ 58 := ha x (by simp)
    rw [List.cons_append, List.cons_append, dblGo, if_neg (fun e => hx e.1)]
    have := dbl_free (y :: a) m (i + 1) (fun b hb => ha b (by simp at hb ⊢; exact .inr hb)) h (by
      have e : i + 1 + (y :: a).length + 1 = i + (x :: y :: a).length + 1 := by simp; omega
      rw [e]; exact h2)
    simpa using this
theorem dbl_noB : ∀ (a : List UInt8) (i : Nat), noB 58 a → dblGo a i = none
  | [], _, _ => rfl
  | [_], _, _ => rfl
  | x :: y :: a, i, h => by
    rw [dblGo, if_neg (fun e => h x (by simp) e.1)]
    exact dbl_noB (y :: a) (i + 1) (fun b hb => h b (by simp at hb ⊢; exact .inr hb))
/-- Parts that are not empty and contain no colon. -/
def Cols (P : List (List UInt8)) : Prop := ∀ x ∈ P, x ≠ [] ∧ noB 58 x
theorem Cols.tail {x : List UInt8} {P : List (List UInt8)} (h : Cols (x :: P)) : Cols P := fun y hy => h y (by simp [hy])
theorem join_head {P : List (List UInt8)} (h : Cols P) : (joinL 58 P).head? ≠ some 58 := by
  match P, h with
  | [], _ => simp [joinL]
  | [a], h =>
    obtain ⟨h1, h2⟩ := h a (by simp)
    cases a with
    | nil => exact absurd rfl h1
    | cons c r => simpa [joinL] using h2 c (by simp)
  | a :: b :: r, h =>
    obtain ⟨h1, h2⟩ := h a (by simp)
    cases a with
    | nil => exact absurd rfl h1
    | cons c r => simpa [joinL] using h2 c (by simp)
theorem join_ne {P : List (List UInt8)} (h : Cols P) (hP : P ≠ []) : joinL 58 P ≠ [] := by
  match P, h with
  | [a], h => exact (h a (by simp)).1
  | a :: b :: r, h => simp [joinL]
theorem join_last {P : List (List UInt8)} (h : Cols P) : (joinL 58 P).getLast? ≠ some 58 := by
  induction P with
  | nil => simp [joinL]
  | cons a r ih =>
    cases r with
    | nil =>
      obtain ⟨h1, h2⟩ := h a (by simp)
      rw [joinL]
      intro e
      have := List.mem_of_getLast? e
      exact h2 58 this rfl
    | cons b r =>
      have h3 := ih h.tail
      have h4 := join_ne h.tail (by simp)
      rw [joinL]
      rw [List.getLast?_append, List.getLast?_cons]
      cases hx : (joinL 58 (b :: r)).getLast? with
      | none => exact absurd (List.getLast?_eq_none_iff.1 hx) h4
      | some y => rw [hx] at h3; simpa using h3
theorem join_dbl {P : List (List UInt8)} (h : Cols P) : ∀ i, dblGo (joinL 58 P) i = none := by
  induction P with
  | nil => intro i; rfl
  | cons a r ih =>
    intro i
    cases r with
    | nil => exact dbl_noB a i (h a (by simp)).2
    | cons b r =>
      rw [joinL]
      exact dbl_free a _ i (h a (by simp)).2 (join_head h.tail) (ih h.tail _)
theorem join_split {P : List (List UInt8)} (h : Cols P) (hP : P ≠ []) : splitL 58 (joinL 58 P) = P := split_joinL 58 P hP (fun a ha => (h a ha).2)
theorem groups_join {P : List (List UInt8)} (h : Cols P) (last : Bool) : groupsL (joinL 58 P) last = grpGo P last := by
  unfold groupsL
  by_cases hP : P = []
  · subst hP; rfl
  · rw [if_neg (join_ne h hP), join_split h hP]
/-- The address of groups with and without two colons. -/
theorem parse_plain {P : List (List UInt8)} (h : Cols P) {g : List Nat} (hg : grpGo P true = some g) (hl : g.length = 8) : parse6 (joinL 58 P) = some g := by
  unfold parse6
  rw [join_dbl h 0]
  simp only
  rw [groups_join h, hg]
  simp only
  rw [if_pos hl]
theorem parse_cols {P Q : List (List UInt8)} (hP : Cols P) (hQ : Cols Q) {g q : List Nat} (hg : grpGo P false = some g) (hq : grpGo Q true = some q) (hl : g.length + q.length ≤ 7) :
    parse6 (joinL 58 P ++ 58 :: 58 :: joinL 58 Q) = some (g ++ (zerosN (8 - g.length - q.length) ++ q)) := by
  unfold parse6
  rw [dbl_before _ _ 0 (join_dbl hP 0) (join_last hP)]
  simp only [Nat.zero_add]
  have e1 : (joinL 58 P ++ 58 :: 58 :: joinL 58 Q).take (joinL 58 P).length = joinL 58 P := by rw [List.take_append_of_le_length (Nat.le_refl _), List.take_length]
  have e2 : (joinL 58 P ++ 58 :: 58 :: joinL 58 Q).drop ((joinL 58 P).length + 2) = joinL 58 Q := by
    rw [← List.drop_drop, List.drop_append_of_le_length (Nat.le_refl _), List.drop_length]; rfl
  rw [e1, e2, groups_join hP, hg]
  simp only
  rw [groups_join hQ, hq]
  simp only
  rw [if_pos hl]
/-- Groups, each spelt as a group. -/
def Grps (P : List (List UInt8)) (g : List Nat) : Prop := P.map hexL = g.map some
theorem hexL_not4 {x : List UInt8} {g : Nat} (h : hexL x = some g) : parseL x = none := by
  cases hp : parseL x with
  | none => rfl
  | some v =>
    have hx := (parseL_some hp).2
    unfold hexL at h
    split at h
    · rename_i hc
      have h46 : (46 : UInt8) ∈ x := by rw [hx]; unfold fmtI; simp [joinL]
      have := List.all_eq_true.1 hc.2 46 h46
      exact absurd this (by decide)
    · cases h
theorem grp_ok : ∀ (P : List (List UInt8)) (g : List Nat) (last : Bool), Grps P g → grpGo P last = some g
  | [], g, _, h => by
    unfold Grps at h
    have : g = [] := by cases g with
      | nil => rfl
      | cons => simp at h
    subst this; rfl
  | [x], g, last, h => by
    unfold Grps at h
    match g, h with
    | [y], h =>
      have hx : hexL x = some y := by simpa using h
      have h4 := hexL_not4 hx
      rw [grpGo]
      have : (if last = true then parseL x else none) = none := by split <;> simp [h4]
      rw [this, hx]
    | _ :: _ :: _, h => simp at h
  | x :: y :: r, g, last, h => by
    unfold Grps at h
    match g, h with
    | z :: g, h =>
      have hx : hexL x = some z := by simp at h; exact h.1
      have hr : Grps (y :: r) g := by unfold Grps; simp at h ⊢; exact h.2
      rw [grpGo, hx, grp_ok (y :: r) g last hr]
theorem Grps.append {P Q : List (List UInt8)} {g q : List Nat} (h : Grps P g) (h2 : Grps Q q) : Grps (P ++ Q) (g ++ q) := by
  unfold Grps at h h2 ⊢
  rw [List.map_append, List.map_append, h, h2]
theorem grp_dot : ∀ (P : List (List UInt8)) (g : List Nat) (v : Nat), Grps P g → v < 4294967296 → grpGo (P ++ [fmtI v]) true = some (g ++ [v / 65536, v % 65536])
  | [], g, v, h, hv => by
    unfold Grps at h
    have : g = [] := by cases g with
      | nil => rfl
      | cons => simp at h
    subst this
    rw [List.nil_append, grpGo, if_pos rfl, parse_fmtI v hv]; rfl
  | x :: r, g, v, h, hv => by
    unfold Grps at h
    match g, h with
    | z :: g, h =>
      have hx : hexL x = some z := by simp at h; exact h.1
      have hr : Grps r g := by unfold Grps; simp at h ⊢; exact h.2
      have ih := grp_dot r g v hr hv
      rw [List.cons_append]
      cases hc : r ++ [fmtI v] with
      | nil => simp at hc
      | cons y s =>
        rw [grpGo, hx, ← hc, ih]; rfl
/-- The text of a group is read back. -/
theorem hexT_len (v : Nat) (hv : v < 65536) : 1 ≤ (hexT v).length ∧ (hexT v).length ≤ 4 := by
  have h0 := digs_ne (b := 16) (by omega) v (by omega)
  refine ⟨List.length_pos_iff.2 h0, ?_⟩
  have key : ∀ (k m : Nat), m < 16 ^ (k + 1) → m < 1099511627776 → (digsB 16 m).length ≤ k + 1 := by
    intro k
    induction k with
    | zero => intro m h _; rw [digsB_small (by simpa using h)]; simp
    | succ k ih =>
      intro m h hm
      by_cases hs : m < 16
      · rw [digsB_small hs]; simp
      · rw [digsB_step (by omega) hm hs, List.length_append]
        have := ih (m / 16) (by rw [Nat.pow_succ] at h; omega) (by omega)
        simp; omega
  exact key 3 v (by have : (16 : Nat) ^ (3 + 1) = 65536 := by decide
                    omega) (by omega)
theorem hexT_hex (v : Nat) (hv : v < 65536) : hexL (hexT v) = some v := by
  unfold hexL
  rw [if_pos ⟨hexT_len v hv, digs_dig (by omega) (by omega) v (by omega)⟩]
  unfold hexT
  rw [digs_val (by omega) (by omega) v (by omega)]
theorem hex_noB : ∀ d : Fin 16, hexc d.val ≠ 58 := by decide +kernel
theorem hexT_noB (v : Nat) (hv : v < 65536) : noB 58 (hexT v) := by
  have h := digs_all (b := 16) (by omega) (by omega) (fun c => decide (c ≠ 58)) (fun d hd => decide_eq_true (hex_noB ⟨d, hd⟩)) v (by omega)
  rw [List.all_eq_true] at h
  intro c hc
  exact of_decide_eq_true (h c hc)
theorem hexT_ne (v : Nat) (hv : v < 65536) : hexT v ≠ [] := digs_ne (by omega) v (by omega)
/-- Groups of 16 bits. -/
def G16 (a : List Nat) : Prop := ∀ x ∈ a, x < 65536
theorem G16.cols {a : List Nat} (h : G16 a) : Cols (a.map hexT) := by
  intro x hx
  obtain ⟨v, hv, rfl⟩ := List.mem_map.1 hx
  exact ⟨hexT_ne v (h v hv), hexT_noB v (h v hv)⟩
theorem G16.grps {a : List Nat} (h : G16 a) : Grps (a.map hexT) a := by
  unfold Grps
  rw [List.map_map]
  exact List.map_congr_left fun v hv => hexT_hex v (h v hv)
theorem G16.take {a : List Nat} (h : G16 a) (k : Nat) : G16 (a.take k) := fun x hx => h x (List.mem_of_mem_take hx)
theorem G16.drop {a : List Nat} (h : G16 a) (k : Nat) : G16 (a.drop k) := fun x hx => h x (List.mem_of_mem_drop hx)
/-- Parse reads back what Format writes. -/
theorem parse_fmt6 (a : List Nat) (h : G16 a) (hl : a.length = 8) : parse6 (fmt6 a) = some a := by
  unfold fmt6 txt6
  rcases best_is a 8 with e | ⟨i, m, hi, e, h2, hm⟩
  · rw [e]
    simp only
    rw [if_pos (.inl (by decide)), List.take_of_length_le (by omega)]
    exact parse_plain h.cols (grp_ok _ _ _ h.grps) hl
  · rw [e]
    simp only
    have hmz := zrun_le (a.drop i)
    rw [← hm, List.length_drop] at hmz
    rw [if_neg (by omega), Int.toNat_natCast, List.take_of_length_le (by omega : a.length ≤ 8)]
    have hp := parse_cols (h.take i).cols (h.drop (i + m)).cols (grp_ok _ _ false (h.take i).grps) (grp_ok _ _ true (h.drop (i + m)).grps) (by simp; omega)
    rw [hp]
    congr 1
    have hz := zrun_zero (a.drop i)
    rw [← hm] at hz
    have e1 : 8 - (a.take i).length - (a.drop (i + m)).length = m := by simp; omega
    rw [e1, ← hz, ← List.drop_drop, List.take_append_drop, List.take_append_drop]
theorem fmt6_inj {a b : List Nat} (ha : G16 a) (hb : G16 b) (la : a.length = 8) (lb : b.length = 8) (h : fmt6 a = fmt6 b) : a = b := by
  have := parse_fmt6 a ha la
  rw [h, parse_fmt6 b hb lb] at this
  injection this with e
  exact e.symm
end

end Go.Proofs.YthoolifdmemceaaGreatDoor
