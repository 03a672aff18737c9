/-
  The text of an address, step by step: no program.
-/
import Derived.Test.YthihfhmclmmadaaDoorI6P
namespace Go.Proofs.YthihfhmclmmadaaDoor
open Go.RowKit

theorem join_snoc58 (x : List UInt8) : ∀ Q : List (List UInt8), joinL 58 (Q ++ [x]) = joinL 58 Q ++ ((if Q = [] then [] else [58]) ++ x)
  | [] => rfl
  | [a] => rfl
  | a :: b :: r => by
    have ih := join_snoc58 x (b :: r)
    rw [if_neg (by simp)] at ih ⊢
    rw [List.cons_append, joinL_cons 58 a _ (by simp), ih, joinL_cons 58 a (b :: r) (by simp)]
    simp
theorem take_snoc (a : List Nat) (k : Nat) (h : k < a.length) : a.take (k + 1) = a.take k ++ [a.getD k 0] := by
  rw [List.take_succ_eq_append_getElem h, List.getD_eq_getElem?_getD, List.getElem?_eq_getElem h, Option.getD_some]
theorem txt6_pre (a : List Nat) (t : Int) (m k : Nat) (hk : k < a.length) (h : t < 0 ∨ (k : Int) < t) : txt6 a t m (k + 1) = txt6 a t m k ++ ((if k = 0 then [] else [58]) ++ hexT (a.getD k 0)) := by
  unfold txt6
  rw [if_pos (by omega), if_pos (by omega), take_snoc a k hk, List.map_append, List.map_cons, List.map_nil, join_snoc58]
  congr 2
  by_cases h0 : k = 0
  · subst h0; rfl
  · rw [if_neg h0, if_neg]
    intro e
    rw [List.map_eq_nil_iff, List.take_eq_nil_iff] at e
    rcases e with e | e
    · exact h0 e
    · subst e; simp at hk
theorem txt6_post (a : List Nat) (t m k : Nat) (hk : k < a.length) (hm : 0 < m) (h : t + m ≤ k) : txt6 a (t : Int) m (k + 1) = txt6 a (t : Int) m k ++ ((if k = t + m then [] else [58]) ++ hexT (a.getD k 0)) := by
  unfold txt6
  rw [if_neg (by omega), if_neg (by omega), Int.toNat_natCast, take_snoc a k hk]
  have e : (a.take k ++ [a.getD k 0]).drop (t + m) = (a.take k).drop (t + m) ++ [a.getD k 0] := by
    rw [List.drop_append_of_le_length (by simp; omega)]
  rw [e, List.map_append, List.map_cons, List.map_nil, join_snoc58, List.append_assoc, List.cons_append, List.cons_append]
  congr 4
  by_cases h0 : k = t + m
  · rw [if_pos h0, if_pos]
    rw [List.map_eq_nil_iff, List.drop_eq_nil_iff]
    simp; omega
  · rw [if_neg h0, if_neg]
    intro e
    rw [List.map_eq_nil_iff, List.drop_eq_nil_iff] at e
    simp at e
    omega
theorem txt6_at (a : List Nat) (t m : Nat) (hm : 0 < m) (h : t + m ≤ a.length) : txt6 a (t : Int) m (t + m) = txt6 a (t : Int) m t ++ [58, 58] := by
  unfold txt6
  rw [if_neg (by omega), if_pos (by omega), Int.toNat_natCast]
  have e : (a.take (t + m)).drop (t + m) = [] := by rw [List.drop_eq_nil_iff]; simp; omega
  rw [e]
  simp [joinL]
theorem txt6_zero (a : List Nat) (t : Int) (m : Nat) (h : t < 0 ∨ 0 ≤ t) : txt6 a t m 0 = [] := by
  unfold txt6
  rw [if_pos (by omega)]; rfl
theorem txt6_last_pre (a : List Nat) (ha : G16 a) (t : Int) (m k : Nat) (hk : k ≤ a.length) (h0 : 0 < k) (h : t < 0 ∨ (k : Int) ≤ t) : txt6 a t m k ≠ [] ∧ (txt6 a t m k).getLast? ≠ some 58 := by
  unfold txt6
  rw [if_pos h]
  refine ⟨join_ne (ha.take k).cols ?_, join_last (ha.take k).cols⟩
  intro e
  rw [List.map_eq_nil_iff, List.take_eq_nil_iff] at e
  rcases e with e | e
  · omega
  · subst e; simp at hk; omega
theorem getLast_two (l m : List UInt8) (h : m ≠ []) : (l ++ 58 :: 58 :: m).getLast? = m.getLast? := by
  rw [List.getLast?_append]
  cases m with
  | nil => exact absurd rfl h
  | cons c r =>
    rw [List.getLast?_cons_cons, List.getLast?_cons_cons]
    cases hx : (c :: r).getLast? with
    | none => rw [List.getLast?_eq_none_iff] at hx; cases hx
    | some y => rfl
theorem txt6_last_at (a : List Nat) (t m : Nat) (hm : 0 < m) (h : t + m ≤ a.length) : txt6 a (t : Int) m (t + m) ≠ [] ∧ (txt6 a (t : Int) m (t + m)).getLast? = some 58 := by
  rw [txt6_at a t m hm h]
  refine ⟨by simp, by simp [List.getLast?_append]⟩
theorem txt6_last_post (a : List Nat) (ha : G16 a) (t m k : Nat) (hk : k ≤ a.length) (hm : 0 < m) (h : t + m < k) : txt6 a (t : Int) m k ≠ [] ∧ (txt6 a (t : Int) m k).getLast? ≠ some 58 := by
  unfold txt6
  rw [if_neg (by omega), Int.toNat_natCast]
  have hne : ((a.take k).drop (t + m)).map hexT ≠ [] := by
    intro e
    rw [List.map_eq_nil_iff, List.drop_eq_nil_iff] at e
    simp at e; omega
  have hc := ((ha.take k).drop (t + m)).cols
  refine ⟨by simp, ?_⟩
  rw [getLast_two _ _ (join_ne hc hne)]
  exact join_last hc
theorem join_len (P : List Nat) (h : G16 P) : (joinL 58 (P.map hexT)).length ≤ 5 * P.length := by
  induction P with
  | nil => simp [joinL]
  | cons a r ih =>
    have h1 := (hexT_len a (h a (by simp))).2
    have ih := ih (fun x hx => h x (by simp [hx]))
    cases r with
    | nil => simp [joinL]; omega
    | cons b r =>
      simp only [List.map_cons] at ih ⊢
      rw [joinL]
      simp at ih ⊢
      omega
theorem txt6_len (a : List Nat) (ha : G16 a) (t : Int) (m k : Nat) (hk : k ≤ 8) : (txt6 a t m k).length ≤ 82 := by
  unfold txt6
  split
  · have := join_len (a.take k) (ha.take k); simp only [List.length_take] at this; omega
  · have h1 := join_len (a.take t.toNat) (ha.take _)
    have h2 := join_len ((a.take k).drop (t.toNat + m)) ((ha.take k).drop _)
    rw [List.length_append, List.length_cons, List.length_cons]
    rename_i hh
    simp only [List.length_take, List.length_drop] at h1 h2
    omega
theorem zrun_more (l : List Nat) (q : Nat) (h : q ≤ zrun l) (hq : q < l.length) (hz : l.getD q 0 = 0) : q + 1 ≤ zrun l := by
  induction l generalizing q with
  | nil => simp at hq
  | cons x r ih =>
    unfold zrun at h ih ⊢
    rw [List.takeWhile_cons] at h ⊢
    cases q with
    | zero =>
      have hx : x = 0 := by simpa using hz
      subst hx
      simp
    | succ q =>
      by_cases hx : (x == 0) = true
      · rw [if_pos hx] at h ⊢
        have := ih q (by simpa using h) (by simpa using hq) (by simpa using hz)
        simp; omega
      · rw [if_neg hx] at h
        simp at h
theorem zrun_stop (l : List Nat) (q : Nat) (h : q ≤ zrun l) (hq : q = l.length ∨ (q < l.length ∧ l.getD q 0 ≠ 0)) : zrun l = q := by
  induction l generalizing q with
  | nil => simp [zrun] at h ⊢; omega
  | cons x r ih =>
    have hle := zrun_le (x :: r)
    unfold zrun at h ih hle ⊢
    rw [List.takeWhile_cons] at h hle ⊢
    by_cases hx : (x == 0) = true
    · rw [if_pos hx] at h hle ⊢
      cases q with
      | zero =>
        rcases hq with hq | hq
        · simp at hq
        · exact absurd (by simpa using hx) hq.2
      | succ q =>
        have := ih q (by simpa using h) (by
          rcases hq with hq | hq
          · exact .inl (by simpa using hq)
          · exact .inr ⟨by simpa using hq.1, by simpa using hq.2⟩)
        simp only [List.length_cons]
        omega
    · rw [if_neg hx] at h ⊢
      simp at h ⊢
      omega

end Go.Proofs.YthihfhmclmmadaaDoor
