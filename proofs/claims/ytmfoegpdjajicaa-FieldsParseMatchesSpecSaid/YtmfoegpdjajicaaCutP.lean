/-
  Lists of bytes cut at the first byte of a kind. No program.
-/
import Derived.Test.YtmfoegpdjajicaaBase
import Derived.Lib.Bytealg
namespace Go.Proofs.Ytmfoegpdjajicaa
open Go.RowKit

/-- What stands before the first byte of a kind, and what stands from it on. -/
def befL (p : UInt8 → Bool) (l : List UInt8) : List UInt8 := l.takeWhile fun b => !p b
def fromL (p : UInt8 → Bool) (l : List UInt8) : List UInt8 := l.dropWhile fun b => !p b
def isB (c : UInt8) (b : UInt8) : Bool := b == c
theorem bef_from (p : UInt8 → Bool) (l : List UInt8) : befL p l ++ fromL p l = l := List.takeWhile_append_dropWhile
theorem bef_not (p : UInt8 → Bool) : ∀ (l : List UInt8), ∀ b ∈ befL p l, p b = false
  | [], b, h => by cases h
  | a :: l, b, h => by
    unfold befL at h
    rw [List.takeWhile_cons] at h
    split at h
    · rename_i ha
      rcases List.mem_cons.1 h with rfl | h
      · simpa using ha
      · exact bef_not p l b h
    · cases h
theorem from_head (p : UInt8 → Bool) : ∀ (l : List UInt8) (b : UInt8) (r : List UInt8), fromL p l = b :: r → p b = true
  | [], b, r, h => by cases h
  | a :: l, b, r, h => by
    unfold fromL at h
    rw [List.dropWhile_cons] at h
    split at h
    · exact from_head p l b r h
    · rename_i ha
      injection h with h1 h2
      rw [← h1]
      simpa using ha
theorem bef_nil {p : UInt8 → Bool} {l : List UInt8} (h : ∀ b ∈ l, p b = false) : befL p l = l ∧ fromL p l = [] := by
  have h1 := bef_from p l
  have h2 : fromL p l = [] := by
    cases hf : fromL p l with
    | nil => rfl
    | cons b r =>
      have := from_head p l b r hf
      have hm : b ∈ l := by rw [← h1, hf]; simp
      rw [h b hm] at this
      cases this
  rw [h2, List.append_nil] at h1
  exact ⟨h1, h2⟩
theorem bef_app {p : UInt8 → Bool} {a b : List UInt8} (ha : ∀ x ∈ a, p x = false) (c : UInt8) (r : List UInt8) (hb : b = c :: r) (hc : p c = true) : befL p (a ++ b) = a ∧ fromL p (a ++ b) = b := by
  subst hb
  induction a with
  | nil =>
    unfold befL fromL
    rw [List.nil_append, List.takeWhile_cons, List.dropWhile_cons, if_neg (by rw [hc]; simp), if_neg (by rw [hc]; simp)]
    exact ⟨rfl, rfl⟩
  | cons x a ih =>
    have hx := ha x (by simp)
    obtain ⟨i1, i2⟩ := ih (fun y hy => ha y (by simp [hy]))
    unfold befL fromL at *
    rw [List.cons_append, List.takeWhile_cons, List.dropWhile_cons, if_pos (by rw [hx]; rfl), if_pos (by rw [hx]; rfl), i1, i2]
    exact ⟨rfl, rfl⟩
theorem any_isB {c : UInt8} {l : List UInt8} : l.any (isB c) = true ↔ c ∈ l := by
  rw [List.any_eq_true]
  constructor
  · rintro ⟨x, hx, h⟩
    have : x = c := by simpa [isB] using h
    rwa [← this]
  · exact fun h => ⟨c, h, by simp [isB]⟩
theorem any_none {p : UInt8 → Bool} {l : List UInt8} (h : l.any p = false) : ∀ b ∈ l, p b = false := by
  intro b hb
  cases hp : p b with
  | false => rfl
  | true =>
    have : l.any p = true := List.any_eq_true.2 ⟨b, hb, hp⟩
    rw [h] at this
    cases this
theorem none_any {p : UInt8 → Bool} {l : List UInt8} (h : ∀ b ∈ l, p b = false) : l.any p = false := by
  cases ha : l.any p with
  | false => rfl
  | true =>
    obtain ⟨x, hx, hp⟩ := List.any_eq_true.1 ha
    rw [h x hx] at hp
    cases hp
theorem mem_bef {p : UInt8 → Bool} {l : List UInt8} {b : UInt8} (h : b ∈ befL p l) : b ∈ l := by
  rw [← bef_from p l]
  exact List.mem_append_left _ h
theorem mem_from {p : UInt8 → Bool} {l : List UInt8} {b : UInt8} (h : b ∈ fromL p l) : b ∈ l := by
  rw [← bef_from p l]
  exact List.mem_append_right _ h
theorem indexByte_cut (c : UInt8) : ∀ l : List UInt8, (Lib.indexByte l c = -1 ∧ befL (isB c) l = l ∧ fromL (isB c) l = []) ∨ ∃ r, fromL (isB c) l = c :: r ∧ Lib.indexByte l c = ((befL (isB c) l).length : Int)
  | [] => .inl ⟨rfl, rfl, rfl⟩
  | b :: l => by
    by_cases hb : b = c
    · subst hb
      right
      refine ⟨l, ?_, ?_⟩
      · unfold fromL
        rw [List.dropWhile_cons, if_neg (by simp [isB])]
      · have e : befL (isB b) (b :: l) = [] := by
          unfold befL
          rw [List.takeWhile_cons, if_neg (by simp [isB])]
        rw [e, Lib.indexByte, if_pos (by simp)]
        rfl
    · have hb2 : (b == c) = false := by simpa using hb
      have e1 : befL (isB c) (b :: l) = b :: befL (isB c) l := by
        unfold befL
        rw [List.takeWhile_cons, if_pos (by simp [isB, hb])]
      have e2 : fromL (isB c) (b :: l) = fromL (isB c) l := by
        unfold fromL
        rw [List.dropWhile_cons, if_pos (by simp [isB, hb])]
      rw [e1, e2]
      rcases indexByte_cut c l with ⟨h1, h2, h3⟩ | ⟨r, h1, h2⟩
      · left
        refine ⟨?_, by rw [h2], h3⟩
        rw [Lib.indexByte, hb2, h1]; rfl
      · right
        refine ⟨r, h1, ?_⟩
        rw [Lib.indexByte, hb2, h2]
        have h4 : (((befL (isB c) l).length : Int) == -1) = false := by
          rw [beq_eq_false_iff_ne]
          omega
        rw [h4]
        simp

end Go.Proofs.Ytmfoegpdjajicaa
