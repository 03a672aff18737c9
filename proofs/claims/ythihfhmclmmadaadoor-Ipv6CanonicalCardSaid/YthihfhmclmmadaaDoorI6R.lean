/-
  The text of an address is canonical: plain facts, no program.
-/
import Derived.Test.YthihfhmclmmadaaDoorI6Q
namespace Go.Proofs.YthihfhmclmmadaaDoor
open Go.RowKit

/-- A byte of a text. -/
def okC (c : UInt8) : Bool := (decide (48 ≤ c.toNat) && decide (c.toNat ≤ 57)) || ((decide (97 ≤ c.toNat) && decide (c.toNat ≤ 102)) || c == 58)
/-- How many colons follow a colon; pc: the byte ahead is one. -/
def dpC : Bool → List UInt8 → Nat
  | _, [] => 0
  | pc, c :: r => (if pc && c == 58 then 1 else 0) + dpC (c == 58) r
/-- Nothing, or a colon first. -/
def nextC : List UInt8 → Bool
  | [] => true
  | d :: _ => d == 58
/-- No group with a leading zero; pc: a group begins here. -/
def leadC : Bool → List UInt8 → Bool
  | _, [] => true
  | pc, c :: r => (if pc && c == 48 then nextC r else true) && leadC (c == 58) r
theorem dp_free : ∀ (x : List UInt8) (r : List UInt8) (pc : Bool), noB 58 x → x ≠ [] → dpC pc (x ++ r) = dpC false r
  | [], _, _, _, h => absurd rfl h
  | [c], r, pc, h, _ => by
    have hc : (c == 58) = false := by simpa using h c (by simp)
    rw [List.cons_append, List.nil_append, dpC, hc]; simp
  | c :: d :: x, r, pc, h, _ => by
    have hc : (c == 58) = false := by simpa using h c (by simp)
    rw [List.cons_append, dpC, hc, dp_free (d :: x) r false (fun b hb => h b (by simp at hb ⊢; exact .inr hb)) (by simp)]
    simp
theorem dp_join : ∀ (P : List (List UInt8)) (r : List UInt8), Cols P → P ≠ [] → ∀ pc, dpC pc (joinL 58 P ++ r) = dpC false r
  | [], _, _, h, _ => absurd rfl h
  | [a], r, h, _, pc => dp_free a r pc (h a (by simp)).2 (h a (by simp)).1
  | a :: b :: q, r, h, _, pc => by
    rw [joinL, List.append_assoc, dp_free a _ pc (h a (by simp)).2 (h a (by simp)).1, List.cons_append]
    have hd := join_head h.tail
    have ih := dp_join (b :: q) r h.tail (by simp)
    rw [dpC]
    simp only [Bool.false_and, Bool.false_eq_true, if_false, Nat.zero_add]
    rw [show ((58 : UInt8) == 58) = true from rfl, ih true]
theorem dp_fmt6 (a : List Nat) (h : G16 a) (hl : a.length = 8) : dpC false (fmt6 a) ≤ 1 := by
  have key : ∀ P : List (List UInt8), Cols P → ∀ r, dpC false (joinL 58 P ++ r) = dpC false r := fun P hP r => by
    by_cases e : P = []
    · subst e; rfl
    · exact dp_join P r hP e false
  have key2 : ∀ P : List (List UInt8), Cols P → dpC true (joinL 58 P) = 0 := fun P hP => by
    by_cases e : P = []
    · subst e; rfl
    · have := dp_join P [] hP e true
      rwa [List.append_nil] at this
  unfold fmt6 txt6
  split
  · have := key _ (h.take 8).cols []
    rw [List.append_nil] at this
    rw [this]; simp [dpC]
  · rw [key _ (h.take _).cols, dpC, dpC, show ((58 : UInt8) == 58) = true from rfl, key2 _ ((h.take 8).drop _).cols]
    simp
theorem lead_free : ∀ (x : List UInt8) (r : List UInt8), noB 58 x → leadC false (x ++ r) = leadC false r
  | [], _, _ => rfl
  | c :: x, r, h => by
    have hc : (c == 58) = false := by simpa using h c (by simp)
    rw [List.cons_append, leadC, hc, lead_free x r (fun b hb => h b (by simp [hb]))]
    simp
theorem lead_hex (v : Nat) (hv : v < 65536) (r : List UInt8) (hr : r = [] ∨ r.head? = some 58) : leadC true (hexT v ++ r) = leadC false r := by
  by_cases h0 : v = 0
  · subst h0
    have e : hexT 0 = [48] := by unfold hexT; rw [digsB_small (by omega)]; rfl
    rw [e, List.cons_append, List.nil_append, leadC]
    rcases hr with rfl | hr
    · rfl
    · cases r with
      | nil => rfl
      | cons d q =>
        have : d = 58 := by simpa using hr
        subst this
        rfl
  · have h1 := digs_head (b := 16) (by omega) (by omega) v (by omega) (by omega)
    have h2 := hexT_noB v hv
    have h3 := hexT_ne v hv
    unfold hexT at h2 h3 ⊢
    cases hx : digsB 16 v with
    | nil => exact absurd hx h3
    | cons c x =>
      rw [hx] at h1 h2
      have hc : (c == 58) = false := by simpa using h2 c (by simp)
      have hc48 : (c == 48) = false := by simpa using h1
      rw [List.cons_append, leadC, hc, hc48, lead_free x r (fun b hb => h2 b (by simp [hb]))]
      simp
theorem lead_join : ∀ (P : List Nat) (r : List UInt8), G16 P → P ≠ [] → (r = [] ∨ r.head? = some 58) → leadC true (joinL 58 (P.map hexT) ++ r) = leadC false r
  | [], _, _, h, _ => absurd rfl h
  | [a], r, h, _, hr => lead_hex a (h a (by simp)) r hr
  | a :: b :: q, r, h, _, hr => by
    have ih := lead_join (b :: q) r (fun x hx => h x (by simp at hx ⊢; exact .inr hx)) (by simp) hr
    rw [List.map_cons, List.map_cons, joinL, List.append_assoc, lead_hex a (h a (by simp)) _ (.inr rfl), List.cons_append, leadC]
    rw [List.map_cons] at ih
    rw [show ((58 : UInt8) == 58) = true from rfl, ih]
    simp
theorem lead_fmt6 (a : List Nat) (h : G16 a) (hl : a.length = 8) : leadC true (fmt6 a) = true := by
  have key : ∀ P : List Nat, G16 P → leadC true (joinL 58 (P.map hexT)) = true := fun P hP => by
    by_cases e : P = []
    · subst e; rfl
    · have := lead_join P [] hP e (.inl rfl)
      rw [List.append_nil] at this
      rw [this]; rfl
  unfold fmt6 txt6
  split
  · exact key _ (h.take 8)
  · have k2 := key _ ((h.take 8).drop ((bestUpto a 8).1.toNat + (bestUpto a 8).2))
    have e2 : leadC false (58 :: 58 :: joinL 58 (((a.take 8).drop ((bestUpto a 8).1.toNat + (bestUpto a 8).2)).map hexT)) = true := by
      rw [leadC, leadC, show ((58 : UInt8) == 58) = true from rfl, k2]
      simp
    by_cases e : a.take (bestUpto a 8).1.toNat = []
    · rw [e, List.map_nil]
      show leadC true (58 :: 58 :: _) = true
      rw [leadC, leadC, show ((58 : UInt8) == 58) = true from rfl, k2]
      simp
    · rw [lead_join _ _ (h.take _) e (.inr rfl), e2]
theorem ok_hex : ∀ d : Fin 16, okC (hexc d.val) = true := by decide +kernel
theorem ok_join (P : List Nat) (h : G16 P) : (joinL 58 (P.map hexT)).all okC = true := by
  induction P with
  | nil => rfl
  | cons a r ih =>
    have h1 : (hexT a).all okC = true := digs_all (by omega) (by omega) okC (fun d hd => ok_hex ⟨d, hd⟩) a (by have := h a (by simp); omega)
    have ih := ih (fun x hx => h x (by simp [hx]))
    cases r with
    | nil => simpa [joinL] using h1
    | cons b r =>
      rw [List.map_cons, List.map_cons, joinL, List.all_append, h1, List.all_cons]
      rw [List.map_cons] at ih
      rw [ih]; rfl
theorem ok_fmt6 (a : List Nat) (h : G16 a) : (fmt6 a).all okC = true := by
  unfold fmt6 txt6
  split
  · exact ok_join _ (h.take 8)
  · rw [List.all_append, ok_join _ (h.take _), List.all_cons, List.all_cons, ok_join _ ((h.take 8).drop _)]; rfl
theorem join_len1 (P : List Nat) (h : G16 P) (hP : P ≠ []) : (joinL 58 (P.map hexT)).length + 1 ≤ 5 * P.length ∧ P.length ≤ (joinL 58 (P.map hexT)).length := by
  induction P with
  | nil => exact absurd rfl hP
  | cons a r ih =>
    obtain ⟨h0, h1⟩ := hexT_len a (h a (by simp))
    cases r with
    | nil => simp [joinL]; omega
    | cons b r =>
      have ih := ih (fun x hx => h x (by simp at hx ⊢; exact .inr hx)) (by simp)
      simp only [List.map_cons] at ih ⊢
      rw [joinL]
      simp at ih ⊢
      omega
theorem len_fmt6 (a : List Nat) (h : G16 a) (hl : a.length = 8) : 2 ≤ (fmt6 a).length ∧ (fmt6 a).length ≤ 39 := by
  have ht : a.take 8 = a := List.take_of_length_le (by omega)
  unfold fmt6 txt6
  rw [ht]
  rcases best_is a 8 with e | ⟨i, m, hi, e, h2, hm⟩
  · rw [e]
    simp only
    rw [if_pos (.inl (by decide))]
    have := join_len1 a h (by intro e; rw [e] at hl; simp at hl)
    omega
  · rw [e]
    simp only
    have hmz := zrun_le (a.drop i)
    rw [← hm, List.length_drop] at hmz
    rw [if_neg (by omega), Int.toNat_natCast]
    have h1 := join_len (a.take i) (h.take i)
    have h3 := join_len (a.drop (i + m)) (h.drop (i + m))
    simp only [List.length_take, List.length_drop] at h1 h3
    rw [List.length_append, List.length_cons, List.length_cons]
    omega

end Go.Proofs.YthihfhmclmmadaaDoor
