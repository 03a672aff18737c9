/-
  Splitting at a byte: no program.
-/
import Derived.Test.YtgilpheclmmolaaAscP
namespace Go.Proofs.Ytgilpheclmmolaa
open Go.RowKit

/-- Splitting at a byte. -/
def splitG (c : UInt8) : List UInt8 → List UInt8 → List (List UInt8)
  | [], cur => [cur]
  | b :: r, cur => if b = c then cur :: splitG c r [] else splitG c r (cur ++ [b])
def splitL (c : UInt8) (l : List UInt8) : List (List UInt8) := splitG c l []
theorem splitG_ne (c : UInt8) : ∀ l cur, splitG c l cur ≠ []
  | [], cur => by simp [splitG]
  | b :: r, cur => by unfold splitG; split <;> simp [splitG_ne c r]
theorem splitL_pos (c : UInt8) (l : List UInt8) : 0 < (splitL c l).length := List.length_pos_iff.2 (splitG_ne c l [])
theorem splitG_length (c : UInt8) : ∀ l cur, (splitG c l cur).length ≤ l.length + 1
  | [], cur => by simp [splitG]
  | b :: r, cur => by
    unfold splitG
    split
    · have := splitG_length c r []; simp; omega
    · have := splitG_length c r (cur ++ [b]); simp; omega
theorem splitL_length (c : UInt8) (l : List UInt8) : (splitL c l).length ≤ l.length + 1 := splitG_length c l []
/-- No byte is the separator. -/
def noB (c : UInt8) (l : List UInt8) : Prop := ∀ b ∈ l, b ≠ c
theorem splitG_free (c : UInt8) : ∀ a cur r, noB c a → splitG c (a ++ c :: r) cur = (cur ++ a) :: splitG c r []
  | [], cur, r, _ => by simp [splitG]
  | b :: a, cur, r, h => by
    have hb : b ≠ c := h b (by simp)
    rw [List.cons_append, splitG, if_neg hb, splitG_free c a (cur ++ [b]) r (fun x hx => h x (by simp [hx]))]
    simp
theorem splitG_last (c : UInt8) : ∀ a cur, noB c a → splitG c a cur = [cur ++ a]
  | [], cur, _ => by simp [splitG]
  | b :: a, cur, h => by
    have hb : b ≠ c := h b (by simp)
    rw [splitG, if_neg hb, splitG_last c a (cur ++ [b]) (fun x hx => h x (by simp [hx]))]
    simp
theorem splitL_cons (c : UInt8) (a r : List UInt8) (h : noB c a) : splitL c (a ++ c :: r) = a :: splitL c r := by
  unfold splitL; rw [splitG_free c a [] r h]; rfl
theorem splitL_one (c : UInt8) (a : List UInt8) (h : noB c a) : splitL c a = [a] := by
  unfold splitL; rw [splitG_last c a [] h]; rfl
/-- The parts with the separator between them. -/
def joinL (c : UInt8) : List (List UInt8) → List UInt8
  | [] => []
  | [a] => a
  | a :: b :: r => a ++ c :: joinL c (b :: r)
theorem joinL_cons (c : UInt8) (a : List UInt8) (p : List (List UInt8)) (h : p ≠ []) : joinL c (a :: p) = a ++ c :: joinL c p := by
  cases p with
  | nil => exact absurd rfl h
  | cons b r => rfl
theorem join_splitG (c : UInt8) : ∀ l cur, joinL c (splitG c l cur) = cur ++ l
  | [], cur => by simp [splitG, joinL]
  | b :: r, cur => by
    unfold splitG
    split
    · rename_i h
      rw [joinL_cons c _ _ (splitG_ne c r []), join_splitG c r []]
      simp [h]
    · rw [join_splitG c r (cur ++ [b])]; simp
theorem join_splitL (c : UInt8) (l : List UInt8) : joinL c (splitL c l) = l := by unfold splitL; rw [join_splitG]; rfl
theorem split_joinL (c : UInt8) : ∀ p : List (List UInt8), p ≠ [] → (∀ a ∈ p, noB c a) → splitL c (joinL c p) = p
  | [], h, _ => absurd rfl h
  | [a], _, h => splitL_one c a (h a (by simp))
  | a :: b :: r, _, h => by
    rw [joinL, splitL_cons c a _ (h a (by simp)), split_joinL c (b :: r) (by simp) (fun x hx => h x (by simp at hx ⊢; exact .inr hx))]

/-- A dot at the end. -/
theorem splitG_dot (c : UInt8) : ∀ l cur, splitG c (l ++ [c]) cur = splitG c l cur ++ [[]]
  | [], cur => by simp [splitG]
  | b :: r, cur => by
    rw [List.cons_append, splitG, splitG]
    split
    · rw [splitG_dot c r []]; rfl
    · rw [splitG_dot c r (cur ++ [b])]

end Go.Proofs.Ytgilpheclmmolaa
