/-
  Punycode in plain words: the numbers that the encoder writes lead to the code points. No program.
-/
import Derived.Test.YtoieapdfpbcfpaaDoorPuR
namespace Go.Proofs.YtoieapdfpbcfpaaDoor
open Go.RowKit

/-- One way through the code points: the numbers of those that are n, and the count behind the last one. -/
def inD (n : Nat) : List Nat → Nat → List Nat × Nat
  | [], e => ([], e)
  | p :: r, e => if p < n then inD n r (e + 1) else if p = n then (e :: (inD n r 0).1, (inD n r 0).2) else inD n r e
/-- The least code point from n on. -/
def leastG (n : Nat) : List Nat → Nat
  | [] => 1073741824
  | p :: r => if n ≤ p then min p (leastG n r) else leastG n r
def outD : Nat → List Nat → Nat → Nat → Nat → List Nat
  | 0, _, _, _, _ => []
  | f + 1, P, n, e, done => if done < P.length then (inD (leastG n P) P (e + (leastG n P - n) * (done + 1))).1 ++ outD f P (leastG n P + 1) ((inD (leastG n P) P (e + (leastG n P - n) * (done + 1))).2 + 1) (done + (inD (leastG n P) P (e + (leastG n P - n) * (done + 1))).1.length) else []
/-- The basic code points. -/
def basicN (P : List Nat) : List Nat := P.filter (fun x => decide (x < 128))
def encDs (P : List Nat) : List Nat := outD (P.length + 1) P 128 0 (basicN P).length

/-- Every number is small, and so is what it inserts. -/
def PSt.Ok : PSt → List Nat → Prop
  | _, [] => True
  | s, v :: r => s.i + v ≤ 17179869184 ∧ ptN (s.val v) = true ∧ (s.step v).Ok r
theorem PSt.Ok.append : ∀ (a b : List Nat) (s : PSt), s.Ok a → (s.run a).Ok b → s.Ok (a ++ b)
  | [], _, _, _, h => h
  | v :: r, b, s, h1, h2 => ⟨h1.1, h1.2.1, PSt.Ok.append r b (s.step v) h1.2.2 h2⟩
/-- Where the encoder stands, while it goes through A ++ B at n. -/
structure Syn (A B : List Nat) (n e : Nat) (s : PSt) : Prop where
  out : s.out = A.filter (fun x => decide (x ≤ n)) ++ B.filter (fun x => decide (x < n))
  cnt : e + s.i = (n - s.n) * (s.out.length + 1) + (A.filter (fun x => decide (x ≤ n))).length
  le : s.n ≤ n
/-- The number that the encoder writes inserts the next code point. -/
theorem Syn.emit {A B : List Nat} {n e : Nat} {s : PSt} (h : Syn A (n :: B) n e s) : s.val e = n ∧ s.pos e = (A.filter (fun x => decide (x ≤ n))).length ∧ Syn (A ++ [n]) B n 0 (s.step e) := by
  have hB : (n :: B).filter (fun x => decide (x < n)) = B.filter (fun x => decide (x < n)) := by simp
  have ho := h.out
  rw [hB] at ho
  have hp : (A.filter (fun x => decide (x ≤ n))).length < s.out.length + 1 := by rw [ho, List.length_append]; omega
  have hj : s.i + e = (A.filter (fun x => decide (x ≤ n))).length + (s.out.length + 1) * (n - s.n) := by
    have := h.cnt
    rw [Nat.mul_comm (n - s.n)] at this
    omega
  have hv : s.val e = n := by
    unfold PSt.val
    rw [hj, Nat.add_mul_div_left _ _ (by omega), Nat.div_eq_of_lt hp]
    have := h.le
    omega
  have hq : s.pos e = (A.filter (fun x => decide (x ≤ n))).length := by
    unfold PSt.pos
    rw [hj, Nat.add_mul_mod_self_left, Nat.mod_eq_of_lt hp]
  refine ⟨hv, hq, ?_⟩
  have hs : (s.step e).out = (A ++ [n]).filter (fun x => decide (x ≤ n)) ++ B.filter (fun x => decide (x < n)) := by
    show s.out.take (s.pos e) ++ s.val e :: s.out.drop (s.pos e) = _
    rw [hv, hq, ho, List.take_left' rfl, List.drop_left' rfl, List.filter_append]
    simp
  refine ⟨hs, ?_, ?_⟩
  · show 0 + (s.pos e + 1) = (n - s.val e) * _ + _
    rw [hv, hq, Nat.sub_self, Nat.zero_mul, List.filter_append, List.length_append]
    simp
  · show s.val e ≤ n
    rw [hv]; exact Nat.le_refl _
theorem Syn.less {A B : List Nat} {p n e : Nat} {s : PSt} (h : Syn A (p :: B) n e s) (h1 : p < n) : Syn (A ++ [p]) B n (e + 1) s := by
  have f1 : (A ++ [p]).filter (fun x => decide (x ≤ n)) = A.filter (fun x => decide (x ≤ n)) ++ [p] := by rw [List.filter_append, filter_all (l := [p]) (fun x hx => by simp at hx; subst hx; exact decide_eq_true (by omega))]
  have f2 : (p :: B).filter (fun x => decide (x < n)) = p :: B.filter (fun x => decide (x < n)) := List.filter_cons_of_pos (decide_eq_true h1)
  refine ⟨?_, ?_, h.le⟩
  · rw [h.out, f1, f2]; simp
  · rw [f1, List.length_append, List.length_singleton]
    have := h.cnt
    omega
theorem Syn.more {A B : List Nat} {p n e : Nat} {s : PSt} (h : Syn A (p :: B) n e s) (h1 : ¬ p < n) (h2 : p ≠ n) : Syn (A ++ [p]) B n e s := by
  have f1 : (A ++ [p]).filter (fun x => decide (x ≤ n)) = A.filter (fun x => decide (x ≤ n)) := by rw [List.filter_append, filter_no (l := [p]) (fun x hx => by simp at hx; subst hx; exact decide_eq_false (by omega)), List.append_nil]
  have f2 : (p :: B).filter (fun x => decide (x < n)) = B.filter (fun x => decide (x < n)) := List.filter_cons_of_neg (by simp; omega)
  refine ⟨?_, ?_, h.le⟩
  · rw [h.out, f1, f2]
  · rw [f1]; exact h.cnt
theorem inD_count (n : Nat) : ∀ (B : List Nat) (e : Nat), (inD n B e).1.length = (B.filter (fun x => decide (x = n))).length
  | [], _ => rfl
  | p :: B, e => by
    by_cases h1 : p < n
    · rw [inD, if_pos h1, inD_count n B, List.filter_cons_of_neg (by simp; omega)]
    · by_cases h2 : p = n
      · rw [inD, if_neg h1, if_pos h2, List.filter_cons_of_pos (by simpa using h2), List.length_cons, List.length_cons, inD_count n B]
      · rw [inD, if_neg h1, if_neg h2, inD_count n B, List.filter_cons_of_neg (by simpa using h2)]
theorem Syn.pos_le {A B : List Nat} {n e : Nat} {s : PSt} (h : Syn A B n e s) : (A.filter (fun x => decide (x ≤ n))).length ≤ s.out.length := by
  rw [h.out, List.length_append]; omega
theorem inD_run (n : Nat) (hn : ptN n = true) : ∀ (B A : List Nat) (e : Nat) (s : PSt), Syn A B n e s → (A ++ B).length ≤ 256 →
    Syn (A ++ B) [] n (inD n B e).2 (s.run (inD n B e).1) ∧ s.Ok (inD n B e).1 ∧ (inD n B e).1.length + (A.filter (fun x => decide (x = n))).length = ((A ++ B).filter (fun x => decide (x = n))).length
  | [], A, e, s, h, _ => by
    rw [List.append_nil]
    exact ⟨h, trivial, by simp [inD]⟩
  | p :: B, A, e, s, h, hl => by
    have eAB : A ++ p :: B = (A ++ [p]) ++ B := by simp
    rw [eAB] at hl ⊢
    by_cases h1 : p < n
    · rw [inD, if_pos h1]
      have hs : Syn (A ++ [p]) B n (e + 1) s := by
        have f1 : (A ++ [p]).filter (fun x => decide (x ≤ n)) = A.filter (fun x => decide (x ≤ n)) ++ [p] := by rw [List.filter_append, filter_all (l := [p]) (fun x hx => by simp at hx; subst hx; exact decide_eq_true (by omega))]
        have f2 : (p :: B).filter (fun x => decide (x < n)) = p :: B.filter (fun x => decide (x < n)) := List.filter_cons_of_pos (decide_eq_true h1)
        refine ⟨?_, ?_, h.le⟩
        · rw [h.out, f1, f2]; simp
        · rw [f1, List.length_append, List.length_singleton]
          have := h.cnt
          omega
      have ih := inD_run n hn B (A ++ [p]) (e + 1) s hs hl
      have f3 : ((A ++ [p]).filter (fun x => decide (x = n))).length = (A.filter (fun x => decide (x = n))).length := by
        rw [List.filter_append, filter_no (l := [p]) (fun x hx => by simp at hx; subst hx; exact decide_eq_false (by omega)), List.append_nil]
      rw [f3] at ih
      exact ih
    · by_cases h2 : p = n
      · subst h2
        rw [inD, if_neg h1, if_pos rfl]
        obtain ⟨hv, hq, hs⟩ := h.emit
        have ih := inD_run p hn B (A ++ [p]) 0 (s.step e) hs hl
        have hle := ptN_le hn
        have hpl := h.pos_le
        have hol : s.out.length ≤ 256 := by
          rw [h.out, List.length_append]
          have a1 := List.length_filter_le (fun x => decide (x ≤ p)) A
          have a2 := List.length_filter_le (fun x => decide (x < p)) (p :: B)
          rw [List.length_append, List.length_append] at hl
          simp only [List.length_cons, List.length_nil] at hl a2
          omega
        have f3 : ((A ++ [p]).filter (fun x => decide (x = p))).length = (A.filter (fun x => decide (x = p))).length + 1 := by
          rw [List.filter_append, filter_all (l := [p]) (fun x hx => by simp at hx; subst hx; exact decide_eq_true rfl), List.length_append]; rfl
        rw [f3] at ih
        refine ⟨ih.1, ⟨?_, by rw [hv]; exact hn, ih.2.1⟩, ?_⟩
        · have hm : (p - s.n) * (s.out.length + 1) ≤ 1114111 * 257 := Nat.mul_le_mul (by omega) (by omega)
          have := h.cnt
          omega
        · have := ih.2.2
          simp only [List.length_cons]
          omega
      · rw [inD, if_neg h1, if_neg h2]
        have hs : Syn (A ++ [p]) B n e s := by
          have f1 : (A ++ [p]).filter (fun x => decide (x ≤ n)) = A.filter (fun x => decide (x ≤ n)) := by rw [List.filter_append, filter_no (l := [p]) (fun x hx => by simp at hx; subst hx; exact decide_eq_false (by omega)), List.append_nil]
          have f2 : (p :: B).filter (fun x => decide (x < n)) = B.filter (fun x => decide (x < n)) := List.filter_cons_of_neg (by simp; omega)
          refine ⟨?_, ?_, h.le⟩
          · rw [h.out, f1, f2]
          · rw [f1]; exact h.cnt
        have ih := inD_run n hn B (A ++ [p]) e s hs hl
        have f3 : ((A ++ [p]).filter (fun x => decide (x = n))).length = (A.filter (fun x => decide (x = n))).length := by
          rw [List.filter_append, filter_no (l := [p]) (fun x hx => by simp at hx; subst hx; exact decide_eq_false (by omega)), List.append_nil]
        rw [f3] at ih
        exact ih
theorem leastG_le (n : Nat) : ∀ (P : List Nat) (p : Nat), p ∈ P → n ≤ p → leastG n P ≤ p
  | [], p, h, _ => by simp at h
  | q :: P, p, h, hn => by
    rw [leastG]
    rcases List.mem_cons.1 h with rfl | h
    · rw [if_pos hn]; exact Nat.min_le_left _ _
    · have := leastG_le n P p h hn
      split
      · exact Nat.le_trans (Nat.min_le_right _ _) this
      · exact this
theorem leastG_mem (n : Nat) : ∀ (P : List Nat), (leastG n P = 1073741824) ∨ (leastG n P ∈ P ∧ n ≤ leastG n P)
  | [] => .inl rfl
  | q :: P => by
    rw [leastG]
    split
    · rename_i hq
      rcases leastG_mem n P with h | ⟨h1, h2⟩
      · by_cases hle : q ≤ 1073741824
        · rw [h, Nat.min_eq_left hle]; exact .inr ⟨by simp, hq⟩
        · rw [h, Nat.min_eq_right (by omega)]; exact .inl rfl
      · by_cases hle : q ≤ leastG n P
        · rw [Nat.min_eq_left hle]; exact .inr ⟨by simp, hq⟩
        · rw [Nat.min_eq_right (by omega)]; exact .inr ⟨by simp [h1], h2⟩
    · rcases leastG_mem n P with h | ⟨h1, h2⟩
      · exact .inl h
      · exact .inr ⟨by simp [h1], h2⟩
theorem filter_lt_succ (m : Nat) (P : List Nat) : P.filter (fun x => decide (x < m + 1)) = P.filter (fun x => decide (x ≤ m)) := by
  congr 1
  funext x
  exact decide_eq_decide.2 Nat.lt_succ_iff
theorem filter_le_len (m : Nat) : ∀ P : List Nat, (P.filter (fun x => decide (x ≤ m))).length = (P.filter (fun x => decide (x < m))).length + (P.filter (fun x => decide (x = m))).length
  | [] => rfl
  | p :: P => by
    have ih := filter_le_len m P
    by_cases h1 : p < m
    · rw [List.filter_cons_of_pos (by simp; omega), List.filter_cons_of_pos (by simpa using h1), List.filter_cons_of_neg (by simp; omega)]
      simp only [List.length_cons]
      omega
    · by_cases h2 : p = m
      · rw [List.filter_cons_of_pos (by simp; omega), List.filter_cons_of_neg (by simp; omega), List.filter_cons_of_pos (by simpa using h2)]
        simp only [List.length_cons]
        omega
      · rw [List.filter_cons_of_neg (by simp; omega), List.filter_cons_of_neg (by simp; omega), List.filter_cons_of_neg (by simpa using h2)]
        exact ih
/-- What holds when the encoder looks for the next least code point. -/
theorem least_facts {P : List Nat} (hP : ∀ p ∈ P, ptN p = true) {n : Nat} (hd : (P.filter (fun x => decide (x < n))).length < P.length) :
    leastG n P ∈ P ∧ n ≤ leastG n P ∧ P.filter (fun x => decide (x < leastG n P)) = P.filter (fun x => decide (x < n)) := by
  have hex : ∃ p ∈ P, n ≤ p := by
    refine Decidable.byContradiction fun hno => ?_
    have : P.filter (fun x => decide (x < n)) = P := filter_all (fun x hx => decide_eq_true (by
      refine Nat.lt_of_not_le fun hle => hno ⟨x, hx, hle⟩))
    rw [this] at hd
    omega
  obtain ⟨p, hp, hnp⟩ := hex
  have hle := leastG_le n P p hp hnp
  have hpl := ptN_le (hP p hp)
  rcases leastG_mem n P with h | ⟨h1, h2⟩
  · omega
  · refine ⟨h1, h2, ?_⟩
    refine List.filter_congr fun x hx => ?_
    rw [decide_eq_decide]
    constructor
    · intro hx2
      refine Nat.lt_of_not_le fun hxn => ?_
      have := leastG_le n P x hx hxn
      omega
    · intro hx2
      omega
theorem outD_run {P : List Nat} (hP : ∀ p ∈ P, ptN p = true) (hl : P.length ≤ 256) : ∀ (f n e : Nat) (s : PSt), P.length < f + s.out.length → Syn [] P n e s →
    (s.run (outD f P n e s.out.length)).out = P ∧ s.Ok (outD f P n e s.out.length)
  | 0, n, e, s, hf, h => by
    have ho := h.out
    rw [List.filter_nil, List.nil_append] at ho
    have := List.length_filter_le (fun x => decide (x < n)) P
    rw [ho] at hf
    omega
  | f + 1, n, e, s, hf, h => by
    have ho : s.out = P.filter (fun x => decide (x < n)) := by have := h.out; rwa [List.filter_nil, List.nil_append] at this
    by_cases hd : s.out.length < P.length
    · rw [outD, if_pos hd]
      obtain ⟨hm, hnm, hfl⟩ := least_facts hP (by rw [← ho]; exact hd)
      generalize leastG n P = m at *
      have hs : Syn [] P m (e + (m - n) * (s.out.length + 1)) s := by
        refine ⟨by rw [hfl, ← ho]; rfl, ?_, by have := h.le; omega⟩
        have := h.cnt
        have hle := h.le
        rw [show m - s.n = (m - n) + (n - s.n) by omega, Nat.add_mul]
        simp at this ⊢
        omega
      obtain ⟨i1, i2, i3⟩ := inD_run m (hP m hm) P [] _ s hs (by simpa using hl)
      rw [List.nil_append] at i1 i3
      obtain ⟨x, hx⟩ : ∃ x, x = inD m P (e + (m - n) * (s.out.length + 1)) := ⟨_, rfl⟩
      rw [← hx] at i1 i2 i3 ⊢
      have ho2 : (s.run x.1).out = P.filter (fun x => decide (x ≤ m)) := by have := i1.out; rwa [List.filter_nil, List.append_nil] at this
      have hlen : (s.run x.1).out.length = s.out.length + x.1.length := PSt.run_len _ _
      have hpos : 0 < x.1.length := by
        simp at i3
        rw [i3, ← List.countP_eq_length_filter, List.countP_pos_iff]
        exact ⟨m, hm, by simp⟩
      have hs2 : Syn [] P (m + 1) (x.2 + 1) (s.run x.1) := by
        refine ⟨by rw [filter_lt_succ, ho2]; rfl, ?_, by have := i1.le; omega⟩
        have := i1.cnt
        rw [← ho2] at this
        have hle := i1.le
        rw [show m + 1 - (s.run x.1).n = (m - (s.run x.1).n) + 1 by omega, Nat.add_mul]
        simp
        omega
      have ih := outD_run hP hl f (m + 1) (x.2 + 1) (s.run x.1) (by omega) hs2
      rw [hlen] at ih
      exact ⟨by rw [PSt.run_append]; exact ih.1, PSt.Ok.append _ _ _ i2 ih.2⟩
    · rw [outD, if_neg hd]
      refine ⟨?_, trivial⟩
      show s.out = P
      rw [ho]
      refine List.filter_eq_self.2 ?_
      refine List.length_filter_eq_length_iff.1 ?_
      have := List.length_filter_le (fun x => decide (x < n)) P
      rw [ho] at hd
      omega
def PSt.start (b : List Nat) : PSt := ⟨b, 128, 0⟩
theorem PSt.start_inv {b : List Nat} (h : ∀ x ∈ b, x < 128) : (PSt.start b).Inv :=
  ⟨Nat.zero_le _, by intro x hx; simp [PSt.start] at hx, by intro x hx; simp [PSt.start] at hx ⊢; exact h x hx⟩
theorem basicN_lt (P : List Nat) : ∀ x ∈ basicN P, x < 128 := by
  intro x hx
  have := (List.mem_filter.1 hx).2
  simpa using this
theorem encDs_run {P : List Nat} (hP : ∀ p ∈ P, ptN p = true) (hl : P.length ≤ 256) : ((PSt.start (basicN P)).run (encDs P)).out = P ∧ (PSt.start (basicN P)).Ok (encDs P) := by
  refine outD_run hP hl (P.length + 1) 128 0 (PSt.start (basicN P)) (by omega) ⟨rfl, ?_, Nat.le_refl _⟩
  simp [PSt.start]

end Go.Proofs.YtoieapdfpbcfpaaDoor
