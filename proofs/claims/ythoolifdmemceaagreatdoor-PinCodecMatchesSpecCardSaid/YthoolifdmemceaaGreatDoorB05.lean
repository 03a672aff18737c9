/-
Punycode in plain words: the numbers that the encoder writes lead to the code points. No program.
Punycode in plain words: encoding and decoding of bytes, and that they are inverse. No program.
-/
import Derived.Test.YthoolifdmemceaaGreatDoorB04
namespace Go.Proofs.YthoolifdmemceaaGreatDoor
section
open Go.RowKit

/-- One way through the code points: the numbers of those that are n, and the count behind the last one. -/
def inD (n : Nat) : List Nat → Nat → List Nat × Nat
  | [], e => ([], e)
  | p :: r, e => if p < n then inD n r (e + 1) else if p = n then (e :: (inD n r 0).1, (inD n r 0).2) else inD n r e
/-- The least code point from n on. -/
def leastG (n : Nat) : List Nat → Nat
  | [] => 1073741824
  | p :: r => if n ≤ p then min p (leastG n r) else leastG n r
def outD : Nat → List Nat → Nat → Nat → Nat → List Nat
  | 0, _, _, _, _ => []
  | f + 1, P, n, e, done => if done < P.length then (inD (leastG n P) P (e + (leastG n P - n) * (done + 1))).1 ++ outD f P (leastG n P + 1) ((inD (leastG n P) P (e + (leastG n P - n) * (done + 1))).2 + 1) (done + (inD (leastG n P) P (e + (leastG n P - n) * (done + 1))).1.length) else []
/-- The basic code points. -/
def basicN (P : List Nat) : List Nat := P.filter (fun x => decide (x < 128))
def encDs (P : List Nat) : List Nat := outD (P.length + 1) P 128 0 (basicN P).length

/-- Every number is small, and so is what it inserts. -/
def PSt.Ok : PSt → List Nat → Prop
  | _, [] => True
  | s, v :: r => s.i + v ≤ 17179869184 ∧ ptN (s.val v) = true ∧ (s.step v).Ok r
theorem PSt.Ok.append : ∀ (a b : List Nat) (s : PSt), s.Ok a → (s.run a).Ok b → s.Ok (a ++ b)
  | [], _, _, _, h => h
  | v :: r, b, s, h1, h2 => ⟨h1.1, h1.2.1, PSt.Ok.append r b (s.step v) h1.2.2 h2⟩
/-- Where the encoder stands, while it goes through A ++ B at n. -/
structure Syn (A B : List Nat) (n e : Nat) (s : PSt) : Prop where
  out : s.out = A.filter (fun x => decide (x ≤ n)) ++ B.filter (fun x => decide (x < n))
  cnt : e + s.i = (n - s.n) * (s.out.length + 1) + (A.filter (fun x => decide (x ≤ n))).length
  le : s.n ≤ n
/-- The number that the encoder writes inserts the next code point. -/
theorem Syn.emit {A B : List Nat} {n e : Nat} {s : PSt} (h : Syn A (n :: B) n e s) : s.val e = n ∧ s.pos e = (A.filter (fun x => decide (x ≤ n))).length ∧ Syn (A ++ [n]) B n 0 (s.step e) := by
  have hB : (n :: B).filter (fun x => decide (x < n)) = B.filter (fun x => decide (x < n)) := by simp
  have ho := h.out
  rw [hB] at ho
  have hp : (A.filter (fun x => decide (x ≤ n))).length < s.out.length + 1 := by rw [ho, List.length_append]; omega
  have hj : s.i + e = (A.filter (fun x => decide (x ≤ n))).length + (s.out.length + 1) * (n - s.n) := by
    have := h.cnt
    rw [Nat.mul_comm (n - s.n)] at this
    omega
  have hv : s.val e = n := by
    unfold PSt.val
    rw [hj, Nat.add_mul_div_left _ _ (by omega), Nat.div_eq_of_lt hp]
    have := h.le
    omega
  have hq : s.pos e = (A.filter (fun x => decide (x ≤ n))).length := by
    unfold PSt.pos
    rw [hj, Nat.add_mul_mod_self_left, Nat.mod_eq_of_lt hp]
  refine ⟨hv, hq, ?_⟩
  have hs : (s.step e).out = (A ++ [n]).filter (fun x => decide (x ≤ n)) ++ B.filter (fun x => decide (x < n)) := by
    show s.out.take (s.pos e) ++ s.val e :: s.out.drop (s.pos e) = _
    rw [hv, hq, ho, List.take_left' rfl, List.drop_left' rfl, List.filter_append]
    simp
  refine ⟨hs, ?_, ?_⟩
  · show 0 + (s.pos e + 1) = (n - s.val e) * _ + _
    rw [hv, hq, Nat.sub_self, Nat.zero_mul, List.filter_append, List.length_append]
    simp
  · show s.val e ≤ n
    rw [hv]; exact Nat.le_refl _
theorem Syn.less {A B : List Nat} {p n e : Nat} {s : PSt} (h : Syn A (p :: B) n e s) (h1 : p < n) : Syn (A ++ [p]) B n (e + 1) s := by
  have f1 : (A ++ [p]).filter (fun x => decide (x ≤ n)) = A.filter (fun x => decide (x ≤ n)) ++ [p] := by rw [List.filter_append, filter_all (l := [p]) (fun x hx => by simp at hx; subst hx; exact decide_eq_true (by omega))]
  have f2 : (p :: B).filter (fun x => decide (x < n)) = p :: B.filter (fun x => decide (x < n)) := List.filter_cons_of_pos (decide_eq_true h1)
  refine ⟨?_, ?_, h.le⟩
  · rw [h.out, f1, f2]; simp
  · rw [f1, List.length_append, List.length_singleton]
    have := h.cnt
    omega
theorem Syn.more {A B : List Nat} {p n e : Nat} {s : PSt} (h : Syn A (p :: B) n e s) (h1 : ¬ p < n) (h2 : p ≠ n) : Syn (A ++ [p]) B n e s := by
  have f1 : (A ++ [p]).filter (fun x => decide (x ≤ n)) = A.filter (fun x => decide (x ≤ n)) := by rw [List.filter_append, filter_no (l := [p]) (fun x hx => by simp at hx; subst hx; exact decide_eq_false (by omega)), List.append_nil]
  have f2 : (p :: B).filter (fun x => decide (x < n)) = B.filter (fun x => decide (x < n)) := List.filter_cons_of_neg (by simp; omega)
  refine ⟨?_, ?_, h.le⟩
  · rw [h.out, f1, f2]
  · rw [f1]; exact h.cnt
theorem inD_count (n : Nat) : ∀ (B : List Nat) (e : Nat), (inD n B e).1.length = (B.filter (fun x => decide (x = n))).length
  | [], _ => rfl
  | p :: B, e => by
    by_cases h1 : p < n
    · rw [inD, if_pos h1, inD_count n B, List.filter_cons_of_neg (by simp; omega)]
    · by_cases h2 : p = n
      · rw [inD, if_neg h1, if_pos h2, List.filter_cons_of_pos (by simpa using h2), List.length_cons, List.length_cons, inD_count n B]
      · rw [inD, if_neg h1, if_neg h2, inD_count n B, List.filter_cons_of_neg (by simpa using h2)]
theorem Syn.pos_le {A B : List Nat} {n e : Nat} {s : PSt} (h : Syn A B n e s) : (A.filter (fun x => decide (x ≤ n))).length ≤ s.out.length := by
  rw [h.out, List.length_append]; omega
theorem inD_run (n : Nat) (hn : ptN n = true) : ∀ (B A : List Nat) (e : Nat) (s : PSt), Syn A B n e s → (A ++ B).length ≤ 256 →
    Syn (A ++ B) [] n (inD n B e).2 (s.run (inD n B e).1) ∧ s.Ok (inD n B e).1 ∧ (inD n B e).1.length + (A.filter (fun x => decide (x = n))).length = ((A ++ B).filter (fun x => decide (x = n))).length
  | [], A, e, s, h, _ => by
    rw [List.append_nil]
    exact ⟨h, trivial, by simp [inD]⟩
  | p :: B, A, e, s, h, hl => by
    have eAB : A ++ p :: B = (A ++ [p]) ++ B := by simp
    rw [eAB] at hl ⊢
    by_cases h1 : p < n
    · rw [inD, if_pos h1]
      have hs : Syn (A ++ [p]) B n (e + 1) s := by
        have f1 : (A ++ [p]).filter (fun x => decide (x ≤ n)) = A.filter (fun x => decide (x ≤ n)) ++ [p] := by rw [List.filter_append, filter_all (l := [p]) (fun x hx => by simp at hx; subst hx; exact decide_eq_true (by omega))]
        have f2 : (p :: B).filter (fun x => decide (x < n)) = p :: B.filter (fun x => decide (x < n)) := List.filter_cons_of_pos (decide_eq_true h1)
        refine ⟨?_, ?_, h.le⟩
        · rw [h.out, f1, f2]; simp
        · rw [f1, List.length_append, List.length_singleton]
          have := h.cnt
          omega
      have ih := inD_run n hn B (A ++ [p]) (e + 1) s hs hl
      have f3 : ((A ++ [p]).filter (fun x => decide (x = n))).length = (A.filter (fun x => decide (x = n))).length := by
        rw [List.filter_append, filter_no (l := [p]) (fun x hx => by simp at hx; subst hx; exact decide_eq_false (by omega)), List.append_nil]
      rw [f3] at ih
      exact ih
    · by_cases h2 : p = n
      · subst h2
        rw [inD, if_neg h1, if_pos rfl]
        obtain ⟨hv, hq, hs⟩ := h.emit
        have ih := inD_run p hn B (A ++ [p]) 0 (s.step e) hs hl
        have hle := ptN_le hn
        have hpl := h.pos_le
        have hol : s.out.length ≤ 256 := by
          rw [h.out, List.length_append]
          have a1 := List.length_filter_le (fun x => decide (x ≤ p)) A
          have a2 := List.length_filter_le (fun x => decide (x < p)) (p :: B)
          rw [List.length_append, List.length_append] at hl
          simp only [List.length_cons, List.length_nil] at hl a2
          omega
        have f3 : ((A ++ [p]).filter (fun x => decide (x = p))).length = (A.filter (fun x => decide (x = p))).length + 1 := by
          rw [List.filter_append, filter_all (l := [p]) (fun x hx => by simp at hx; subst hx; exact decide_eq_true rfl), List.length_append]; rfl
        rw [f3] at ih
        refine ⟨ih.1, ⟨?_, by rw [hv]; exact hn, ih.2.1⟩, ?_⟩
        · have hm : (p - s.n) * (s.out.length + 1) ≤ 1114111 * 257 := Nat.mul_le_mul (by omega) (by omega)
          have := h.cnt
          omega
        · have := ih.2.2
          simp only [List.length_cons]
          omega
      · rw [inD, if_neg h1, if_neg h2]
        have hs : Syn (A ++ [p]) B n e s := by
          have f1 : (A ++ [p]).filter (fun x => decide (x ≤ n)) = A.filter (fun x => decide (x ≤ n)) := by rw [List.filter_append, filter_no (l := [p]) (fun x hx => by simp at hx; subst hx; exact decide_eq_false (by omega)), List.append_nil]
          have f2 : (p :: B).filter (fun x => decide (x < n)) = B.filter (fun x => decide (x < n)) := List.filter_cons_of_neg (by simp; omega)
          refine ⟨?_, ?_, h.le⟩
          · rw [h.out, f1, f2]
          · rw [f1]; exact h.cnt
        have ih := inD_run n hn B (A ++ [p]) e s hs hl
        have f3 : ((A ++ [p]).filter (fun x => decide (x = n))).length = (A.filter (fun x => decide (x = n))).length := by
          rw [List.filter_append, filter_no (l := [p]) (fun x hx => by simp at hx; subst hx; exact decide_eq_false (by omega)), List.append_nil]
        rw [f3] at ih
        exact ih
theorem leastG_le (n : Nat) : ∀ (P : List Nat) (p : Nat), p ∈ P → n ≤ p → leastG n P ≤ p
  | [], p, h, _ => by simp at h
  | q :: P, p, h, hn => by
    rw [leastG]
    rcases List.mem_cons.1 h with rfl | h
    · rw [if_pos hn]; exact Nat.min_le_left _ _
    · have := leastG_le n P p h hn
      split
      · exact Nat.le_trans (Nat.min_le_right _ _) this
      · exact this
theorem leastG_mem (n : Nat) : ∀ (P : List Nat), (leastG n P = 1073741824) ∨ (leastG n P ∈ P ∧ n ≤ leastG n P)
  | [] => .inl rfl
  | q :: P => by
    rw [leastG]
    split
    · rename_i hq
      rcases leastG_mem n P with h | ⟨h1, h2⟩
      · by_cases hle : q ≤ 1073741824
        · rw [h, Nat.min_eq_left hle]; exact .inr ⟨by simp, hq⟩
        · rw [h, Nat.min_eq_right (by omega)]; exact .inl rfl
      · by_cases hle : q ≤ leastG n P
        · rw [Nat.min_eq_left hle]; exact .inr ⟨by simp, hq⟩
        · rw [Nat.min_eq_right (by omega)]; exact .inr ⟨by simp [h1], h2⟩
    · rcases leastG_mem n P with h | ⟨h1, h2⟩
      · exact .inl h
      · exact .inr ⟨by simp [h1], h2⟩
theorem filter_lt_succ (m : Nat) (P : List Nat) : P.filter (fun x => decide (x < m + 1)) = P.filter (fun x => decide (x ≤ m)) := by
  congr 1
  funext x
  exact decide_eq_decide.2 Nat.lt_succ_iff
theorem filter_le_len (m : Nat) : ∀ P : List Nat, (P.filter (fun x => decide (x ≤ m))).length = (P.filter (fun x => decide (x < m))).length + (P.filter (fun x => decide (x = m))).length
  | [] => rfl
  | p :: P => by
    have ih := filter_le_len m P
    by_cases h1 : p < m
    · rw [List.filter_cons_of_pos (by simp; omega), List.filter_cons_of_pos (by simpa using h1), List.filter_cons_of_neg (by simp; omega)]
      simp only [List.length_cons]
      omega
    · by_cases h2 : p = m
      · rw [List.filter_cons_of_pos (by simp; omega), List.filter_cons_of_neg (by simp; omega), List.filter_cons_of_pos (by simpa using h2)]
        simp only [List.length_cons]
        omega
      · rw [List.filter_cons_of_neg (by simp; omega), List.filter_cons_of_neg (by simp; omega), List.filter_cons_of_neg (by simpa using h2)]
        exact ih
/-- What holds when the encoder looks for the next least code point. -/
theorem least_facts {P : List Nat} (hP : ∀ p ∈ P, ptN p = true) {n : Nat} (hd : (P.filter (fun x => decide (x < n))).length < P.length) :
    leastG n P ∈ P ∧ n ≤ leastG n P ∧ P.filter (fun x => decide (x < leastG n P)) = P.filter (fun x => decide (x < n)) := by
  have hex : ∃ p ∈ P, n ≤ p := by
    refine Decidable.byContradiction fun hno => ?_
    have : P.filter (fun x => decide (x < n)) = P := filter_all (fun x hx => decide_eq_true (by
      refine Nat.lt_of_not_le fun hle => hno ⟨x, hx, hle⟩))
    rw [this] at hd
    omega
  obtain ⟨p, hp, hnp⟩ := hex
  have hle := leastG_le n P p hp hnp
  have hpl := ptN_le (hP p hp)
  rcases leastG_mem n P with h | ⟨h1, h2⟩
  · omega
  · refine ⟨h1, h2, ?_⟩
    refine List.filter_congr fun x hx => ?_
    rw [decide_eq_decide]
    constructor
    · intro hx2
      refine Nat.lt_of_not_le fun hxn => ?_
      have := leastG_le n P x hx hxn
      omega
    · intro hx2
      omega
theorem outD_run {P : List Nat} (hP : ∀ p ∈ P, ptN p = true) (hl : P.length ≤ 256) : ∀ (f n e : Nat) (s : PSt), P.length < f + s.out.length → Syn [] P n e s →
    (s.run (outD f P n e s.out.length)).out = P ∧ s.Ok (outD f P n e s.out.length)
  | 0, n, e, s, hf, h => by
    have ho := h.out
    rw [List.filter_nil, List.nil_append] at ho
    have := List.length_filter_le (fun x => decide (x < n)) P
    rw [ho] at hf
    omega
  | f + 1, n, e, s, hf, h => by
    have ho : s.out = P.filter (fun x => decide (x < n)) := by have := h.out; rwa [List.filter_nil, List.nil_append] at this
    by_cases hd : s.out.length < P.length
    · rw [outD, if_pos hd]
      obtain ⟨hm, hnm, hfl⟩ := least_facts hP (by rw [← ho]; exact hd)
      generalize leastG n P = m at *
      have hs : Syn [] P m (e + (m - n) * (s.out.length + 1)) s := by
        refine ⟨by rw [hfl, ← ho]; rfl, ?_, by have := h.le; omega⟩
        have := h.cnt
        have hle := h.le
        rw [show m - s.n = (m - n) + (n - s.n) by omega, Nat.add_mul]
        simp at this ⊢
        omega
      obtain ⟨i1, i2, i3⟩ := inD_run m (hP m hm) P [] _ s hs (by simpa using hl)
      rw [List.nil_append] at i1 i3
      obtain ⟨x, hx⟩ : ∃ x, x = inD m P (e + (m - n) * (s.out.length + 1)) := ⟨_, rfl⟩
      rw [← hx] at i1 i2 i3 ⊢
      have ho2 : (s.run x.1).out = P.filter (fun x => decide (x ≤ m)) := by have := i1.out; rwa [List.filter_nil, List.append_nil] at this
      have hlen : (s.run x.1).out.length = s.out.length + x.1.length := PSt.run_len _ _
      have hpos : 0 < x.1.length := by
        simp at i3
        rw [i3, ← List.countP_eq_length_filter, List.countP_pos_iff]
        exact ⟨m, hm, by simp⟩
      have hs2 : Syn [] P (m + 1) (x.2 + 1) (s.run x.1) := by
        refine ⟨by rw [filter_lt_succ, ho2]; rfl, ?_, by have := i1.le; omega⟩
        have := i1.cnt
        rw [← ho2] at this
        have hle := i1.le
        rw [show m + 1 - (s.run x.1).n = (m - (s.run x.1).n) + 1 by omega, Nat.add_mul]
        simp
        omega
      have ih := outD_run hP hl f (m + 1) (x.2 + 1) (s.run x.1) (by omega) hs2
      rw [hlen] at ih
      exact ⟨by rw [PSt.run_append]; exact ih.1, PSt.Ok.append _ _ _ i2 ih.2⟩
    · rw [outD, if_neg hd]
      refine ⟨?_, trivial⟩
      show s.out = P
      rw [ho]
      refine List.filter_eq_self.2 ?_
      refine List.length_filter_eq_length_iff.1 ?_
      have := List.length_filter_le (fun x => decide (x < n)) P
      rw [ho] at hd
      omega
def PSt.start (b : List Nat) : PSt := ⟨b, 128, 0⟩
theorem PSt.start_inv {b : List Nat} (h : ∀ x ∈ b, x < 128) : (PSt.start b).Inv :=
  ⟨Nat.zero_le _, by intro x hx; simp [PSt.start] at hx, by intro x hx; simp [PSt.start] at hx ⊢; exact h x hx⟩
theorem basicN_lt (P : List Nat) : ∀ x ∈ basicN P, x < 128 := by
  intro x hx
  have := (List.mem_filter.1 hx).2
  simpa using this
theorem encDs_run {P : List Nat} (hP : ∀ p ∈ P, ptN p = true) (hl : P.length ≤ 256) : ((PSt.start (basicN P)).run (encDs P)).out = P ∧ (PSt.start (basicN P)).Ok (encDs P) := by
  refine outD_run hP hl (P.length + 1) 128 0 (PSt.start (basicN P)) (by omega) ⟨rfl, ?_, Nat.le_refl _⟩
  simp [PSt.start]
end

section
open Go.RowKit

/-- Where the last hyphen stands, or 0. -/
def cutGo : List UInt8 → Nat → Nat → Nat
  | [], _, c => c
  | b :: r, i, c => cutGo r (i + 1) (if b = 45 then i else c)
def cutL (l : List UInt8) : Nat := cutGo l 0 0
theorem cutGo_append : ∀ (x y : List UInt8) (i c : Nat), cutGo (x ++ y) i c = cutGo y (i + x.length) (cutGo x i c)
  | [], y, i, c => rfl
  | b :: x, y, i, c => by
    rw [List.cons_append, cutGo, cutGo_append x y, cutGo, List.length_cons]
    congr 1
    omega
theorem cutGo_no : ∀ (y : List UInt8) (i c : Nat), (∀ b ∈ y, b ≠ 45) → cutGo y i c = c
  | [], _, _, _ => rfl
  | b :: y, i, c, h => by
    rw [cutGo, if_neg (h b (by simp)), cutGo_no y _ _ (fun x hx => h x (by simp [hx]))]
theorem cutGo_lt : ∀ (l : List UInt8) (i c : Nat), cutGo l i c = c ∨ cutGo l i c < i + l.length
  | [], i, c => .inl rfl
  | b :: r, i, c => by
    rw [cutGo]
    rcases cutGo_lt r (i + 1) (if b = 45 then i else c) with h | h
    · rw [h]
      split
      · right; simp
      · left; rfl
    · right
      rw [List.length_cons]
      omega
theorem cutL_lt (l : List UInt8) (h : 0 < cutL l) : cutL l < l.length := by
  rcases cutGo_lt l 0 0 with h1 | h1
  · unfold cutL at h; omega
  · unfold cutL; omega
def restL (l : List UInt8) : List UInt8 := if 0 < cutL l then l.drop (cutL l + 1) else l
/-- Decoding of what stands behind the basic code points. -/
def decGo : Nat → List UInt8 → PSt → Nat → Bool → Except Nat (List Nat)
  | 0, _, _, _, _ => .error 4
  | f + 1, l, s, bias, first => if l = [] then .ok s.out else match rdNum l bias 0 1 s.i with
    | .error e => .error e
    | .ok (j, r) => if ptN (s.val (j - s.i)) = false then .error 2 else if 256 < s.out.length + 1 then .error 3 else decGo f r (s.step (j - s.i)) (adp (j - s.i) (s.out.length + 1) first) false
def decL (l : List UInt8) : Except Nat (List Nat) :=
  if 1024 < l.length then .error 3 else if l.any (fun b => decide (128 ≤ b.toNat)) = true then .error 4 else if 256 < cutL l then .error 3
  else decGo (l.length + 1) (restL l) (PSt.start ((l.take (cutL l)).map UInt8.toNat)) 72 true
theorem decGo_run : ∀ (ds : List Nat) (f : Nat) (s : PSt) (bias : Nat) (first : Bool), s.Ok ds → s.out.length + ds.length ≤ 256 → (digsOf ds bias s.out.length first).length < f → decGo f (digsOf ds bias s.out.length first) s bias first = .ok (s.run ds).out
  | ds, 0, s, bias, first, _, _, hf => by omega
  | [], f + 1, s, bias, first, _, _, _ => by rw [decGo, digsOf, if_pos rfl]; rfl
  | v :: r, f + 1, s, bias, first, hok, hl, hf => by
    have hne := genV_ne v 0 bias
    have hpos := List.length_pos_iff.2 hne
    rw [digsOf] at hf ⊢
    rw [List.length_append, List.length_map] at hf
    rw [List.length_cons] at hl
    have h0 : ¬ (genV v 0 bias).map digB ++ digsOf r (adp v (s.out.length + 1) first) (s.out.length + 1) false = [] := by
      intro h
      rw [List.append_eq_nil_iff, List.map_eq_nil_iff] at h
      exact hne h.1
    have hr := rdNum_gen v v 0 bias 1 s.i (digsOf r (adp v (s.out.length + 1) first) (s.out.length + 1) false) (Nat.le_refl _) (Nat.le_refl _) (by have := hok.1; omega)
    rw [decGo, if_neg h0, hr]
    simp only
    have hv : s.i + v * 1 - s.i = v := by omega
    rw [hv, if_neg (by rw [hok.2.1]; simp), if_neg (by omega)]
    have ih := decGo_run r f (s.step v) (adp v (s.out.length + 1) first) false hok.2.2 (by rw [PSt.step_len]; omega) (by rw [PSt.step_len]; omega)
    rw [PSt.step_len] at ih
    rw [ih, PSt.run]
theorem decGo_ok : ∀ (f : Nat) (l : List UInt8) (s : PSt) (bias : Nat) (first : Bool) (p : List Nat), decGo f l s bias first = .ok p → s.out.length ≤ 256 →
    ∃ ds, l.map lowD = digsOf ds bias s.out.length first ∧ (s.run ds).out = p ∧ p.length ≤ 256 ∧ (∀ x ∈ p, x ∈ s.out ∨ (s.n ≤ x ∧ ptN x = true)) ∧ (128 ≤ s.n → basicN p = basicN s.out)
  | 0, l, s, bias, first, p, h, _ => by cases h
  | f + 1, l, s, bias, first, p, h, hl => by
    rw [decGo] at h
    split at h
    · rename_i hnil
      injection h with h
      subst h hnil
      exact ⟨[], rfl, rfl, hl, fun x hx => .inl hx, fun _ => rfl⟩
    · split at h
      · cases h
      · rename_i j r hr
        obtain ⟨q, x, e1, _, e2, e3⟩ := rdNum_ok l bias 0 1 s.i j r hr
        have hq : j - s.i = q := by omega
        rw [hq] at h
        split at h
        · cases h
        · rename_i hpt
          split at h
          · cases h
          · rename_i h256
            obtain ⟨ds, g1, g2, g3, g4, g5⟩ := decGo_ok f r (s.step q) _ _ p h (by rw [PSt.step_len]; omega)
            refine ⟨q :: ds, ?_, g2, g3, ?_, ?_⟩
            · rw [e1, List.map_append, e2, g1, PSt.step_len, digsOf]
            · intro y hy
              rcases g4 y hy with hy | ⟨hy1, hy2⟩
              · have : y ∈ s.out.take (s.pos q) ++ s.val q :: s.out.drop (s.pos q) := hy
                rcases List.mem_append.1 this with hy | hy
                · exact .inl (List.mem_of_mem_take hy)
                · rcases List.mem_cons.1 hy with rfl | hy
                  · exact .inr ⟨s.val_ge q, by simpa using hpt⟩
                  · exact .inl (List.mem_of_mem_drop hy)
              · exact .inr ⟨Nat.le_trans (s.val_ge q) hy1, hy2⟩
            · intro hn
              rw [g5 (Nat.le_trans hn (s.val_ge q))]
              show (s.out.take (s.pos q) ++ s.val q :: s.out.drop (s.pos q)).filter _ = s.out.filter _
              have := s.val_ge q
              rw [List.filter_append, List.filter_cons_of_neg (by simp; omega), ← List.filter_append, List.take_append_drop]

/-- The encoding of code points. -/
def encB (P : List Nat) : List UInt8 := (basicN P).map UInt8.ofNat ++ ((if basicN P = [] then [] else [45]) ++ digsOf (encDs P) 72 (basicN P).length true)
theorem digs_no45 (ds : List Nat) (bias done : Nat) (first : Bool) : ∀ b ∈ digsOf ds bias done first, b ≠ 45 := by
  intro b hb he
  obtain ⟨d, hd, rfl⟩ := digsOf_mem ds bias done first b hb
  have := digB_range ⟨d, hd⟩
  rw [show digB (⟨d, hd⟩ : Fin 36).val = digB d from rfl, he] at this
  simp at this
theorem pu_ofNat_toNat {x : Nat} (h : x < 128) : (UInt8.ofNat x).toNat = x := by
  rw [UInt8.toNat_ofNat']
  exact Nat.mod_eq_of_lt (by omega)
theorem map_ofNat : ∀ (b : List Nat), (∀ x ∈ b, x < 128) → (b.map UInt8.ofNat).map UInt8.toNat = b
  | [], _ => rfl
  | x :: b, h => by
    rw [List.map_cons, List.map_cons, pu_ofNat_toNat (h x (by simp)), map_ofNat b (fun y hy => h y (by simp [hy]))]
theorem cut_encB (P : List Nat) : cutL (encB P) = (basicN P).length ∧ restL (encB P) = digsOf (encDs P) 72 (basicN P).length true ∧ (encB P).take (basicN P).length = (basicN P).map UInt8.ofNat := by
  have hno := digs_no45 (encDs P) 72 (basicN P).length true
  have htk : (encB P).take (basicN P).length = (basicN P).map UInt8.ofNat := by
    unfold encB
    rw [List.take_left' (by simp)]
  by_cases hb : basicN P = []
  · have e : encB P = digsOf (encDs P) 72 (basicN P).length true := by unfold encB; rw [if_pos hb, hb]; rfl
    have hc : cutL (encB P) = 0 := by unfold cutL; rw [e, cutGo_no _ _ _ hno]
    refine ⟨by rw [hc, hb]; rfl, ?_, htk⟩
    unfold restL
    rw [hc, if_neg (by omega), e]
  · have e : encB P = (basicN P).map UInt8.ofNat ++ (45 :: digsOf (encDs P) 72 (basicN P).length true) := by unfold encB; rw [if_neg hb]; rfl
    have hc : cutL (encB P) = (basicN P).length := by
      unfold cutL
      rw [e, cutGo_append, cutGo, if_pos rfl, cutGo_no _ _ _ hno, List.length_map, Nat.zero_add]
    refine ⟨hc, ?_, htk⟩
    unfold restL
    rw [hc, if_pos (List.length_pos_iff.2 hb), e, ← List.drop_drop, List.drop_left' (by simp)]
    rfl
theorem encB_ascii (P : List Nat) : (encB P).any (fun b => decide (128 ≤ b.toNat)) = false := by
  rw [List.any_eq_false]
  intro b hb
  rw [decide_eq_true_iff]
  unfold encB at hb
  rcases List.mem_append.1 hb with hb | hb
  · obtain ⟨x, hx, rfl⟩ := List.mem_map.1 hb
    have := basicN_lt P x hx
    rw [pu_ofNat_toNat this]
    omega
  · rcases List.mem_append.1 hb with hb | hb
    · split at hb
      · simp at hb
      · simp at hb
        subst hb
        decide
    · obtain ⟨d, hd, rfl⟩ := digsOf_mem _ _ _ _ b hb
      have := digB_range ⟨d, hd⟩
      rw [show digB (⟨d, hd⟩ : Fin 36).val = digB d from rfl] at this
      omega
theorem encDs_len {P : List Nat} (hP : ∀ p ∈ P, ptN p = true) (hl : P.length ≤ 256) : (basicN P).length + (encDs P).length = P.length := by
  have h1 := (encDs_run hP hl).1
  have h2 := PSt.run_len (encDs P) (PSt.start (basicN P))
  rw [h1] at h2
  exact h2.symm
theorem basicN_self {b : List Nat} (h : ∀ x ∈ b, x < 128) : basicN b = b := filter_all (fun x hx => decide_eq_true (h x hx))
/-- Decoding reads back what encoding writes. -/
theorem pu_dec_enc {P : List Nat} (hP : ∀ p ∈ P, ptN p = true) (hl : P.length ≤ 256) (ht : (encB P).length ≤ 1024) : decL (encB P) = .ok P := by
  obtain ⟨c1, c2, c3⟩ := cut_encB P
  obtain ⟨r1, r2⟩ := encDs_run hP hl
  have hlen := encDs_len hP hl
  have hds : (digsOf (encDs P) 72 (basicN P).length true).length ≤ (encB P).length := by unfold encB; simp only [List.length_append]; omega
  unfold decL
  rw [if_neg (by omega), encB_ascii, if_neg (by simp), c1, if_neg (by omega), c2, c3, map_ofNat _ (basicN_lt P)]
  have := decGo_run (encDs P) ((encB P).length + 1) (PSt.start (basicN P)) 72 true r2 (by show (basicN P).length + _ ≤ _; omega) (by show (digsOf (encDs P) 72 (basicN P).length true).length < _; omega)
  rw [r1] at this
  exact this
/-- What is decoded is encoded in as many bytes, and decoded again to the same. -/
theorem enc_dec {l : List UInt8} {p : List Nat} (h : decL l = .ok p) : (∀ x ∈ p, ptN x = true) ∧ p.length ≤ 256 ∧ (encB p).length = l.length ∧ decL (encB p) = .ok p := by
  unfold decL at h
  split at h
  · cases h
  · rename_i h1024
    split at h
    · cases h
    · rename_i hascii
      split at h
      · cases h
      · rename_i h256
        have hb : ∀ x ∈ (l.take (cutL l)).map UInt8.toNat, x < 128 := by
          intro x hx
          obtain ⟨b, hb, rfl⟩ := List.mem_map.1 hx
          rw [Bool.not_eq_true, List.any_eq_false] at hascii
          have := hascii b (List.mem_of_mem_take hb)
          rw [decide_eq_true_iff] at this
          omega
        have hbl : ((l.take (cutL l)).map UInt8.toNat).length = cutL l := by
          rw [List.length_map, List.length_take]
          by_cases hc : 0 < cutL l
          · have := cutL_lt l hc; omega
          · omega
        obtain ⟨ds, g1, g2, g3, g4, g5⟩ := decGo_ok _ _ _ _ _ p h (by show ((l.take (cutL l)).map UInt8.toNat).length ≤ 256; omega)
        generalize (l.take (cutL l)).map UInt8.toNat = b at *
        have hpb : basicN p = b := by
          rw [g5 (Nat.le_refl _)]
          exact basicN_self hb
        have hP : ∀ x ∈ p, ptN x = true := by
          intro x hx
          rcases g4 x hx with hx | hx
          · have := hb x hx
            unfold ptN
            simp
            omega
          · exact hx.2
        obtain ⟨r1, r2⟩ := encDs_run hP g3
        have hu : encDs p = ds := by
          refine PSt.unique _ _ (PSt.start (basicN p)) (PSt.start_inv (basicN_lt p)) ?_
          rw [r1, hpb, g2]
        have hlen : (encB p).length = l.length := by
          have e1 : (restL l).length = (digsOf ds 72 b.length true).length := by rw [← List.length_map (f := lowD), g1]; rfl
          unfold encB
          rw [hu, hpb]
          simp only [List.length_append, List.length_map]
          rw [← e1]
          unfold restL
          by_cases hc : 0 < cutL l
          · have hbne : b ≠ [] := List.length_pos_iff.1 (by omega)
            have := cutL_lt l hc
            rw [if_neg hbne, if_pos hc, List.length_drop]
            simp
            omega
          · have hbe : b = [] := List.eq_nil_of_length_eq_zero (by omega)
            rw [if_pos hbe, if_neg hc, hbe]
            simp
        exact ⟨hP, g3, hlen, pu_dec_enc hP g3 (by omega)⟩
theorem ok_small : ∀ (ds : List Nat) (s : PSt), s.Ok ds → ∀ d ∈ ds, d < 10 ^ 11
  | [], _, _, d, h => by simp at h
  | v :: r, s, h, d, hd => by
    rcases List.mem_cons.1 hd with rfl | hd
    · have := h.1
      have e : (10 : Nat) ^ 11 = 100000000000 := by decide
      omega
    · exact ok_small r _ h.2.2 d hd
theorem encB_len {P : List Nat} (hP : ∀ p ∈ P, ptN p = true) (hl : P.length ≤ 256) : (encB P).length ≤ 12 * P.length + 1 := by
  have h1 := digsOf_len 11 (encDs P) 72 (basicN P).length true (ok_small _ _ (encDs_run hP hl).2)
  have h2 := encDs_len hP hl
  unfold encB
  rw [List.length_append, List.length_append, List.length_map]
  split
  · simp; omega
  · simp; omega

/-- Encoding of any numbers: the error, and the bytes. -/
def ptZ (z : Int) : Bool := decide (0 ≤ z) && ptN z.toNat
def encL (Z : List Int) : Nat × List UInt8 := if 256 < Z.length then (3, []) else if Z.all ptZ = true then (0, encB (Z.map Int.toNat)) else (2, [])
theorem all_pt {Z : List Int} (h : Z.all ptZ = true) : (∀ p ∈ Z.map Int.toNat, ptN p = true) ∧ (Z.map Int.toNat).map (fun n : Nat => (n : Int)) = Z := by
  rw [List.all_eq_true] at h
  refine ⟨?_, ?_⟩
  · intro p hp
    obtain ⟨z, hz, rfl⟩ := List.mem_map.1 hp
    have := h z hz
    unfold ptZ at this
    simp at this
    exact this.2
  · rw [List.map_map]
    conv => rhs; rw [← List.map_id Z]
    refine List.map_congr_left fun z hz => ?_
    have := h z hz
    unfold ptZ at this
    simp at this ⊢
    omega

theorem adpGo_le : ∀ (m d k : Nat), d ≤ 455 * 35 ^ m → adpGo d k ≤ k + 36 * m + 36
  | 0, d, k, h => by
    simp at h
    rw [adpGo, if_neg (by omega)]
    have : 36 * d / (d + 38) ≤ 36 := by
      refine Nat.div_le_of_le_mul ?_
      rw [Nat.add_mul]
      omega
    omega
  | m + 1, d, k, h => by
    rw [adpGo]
    split
    · have := adpGo_le m (d / 35) (k + 36) (by rw [Nat.pow_succ] at h; omega)
      omega
    · have : 36 * d / (d + 38) ≤ 36 := by
        refine Nat.div_le_of_le_mul ?_
        rw [Nat.add_mul]
        omega
      omega
theorem adp_le (delta n : Nat) (first : Bool) (h : delta ≤ 2199023255552) : adp delta n first ≤ 1000 := by
  unfold adp
  have h1 : (if first then delta / 700 else delta / 2) ≤ 1099511627776 := by split <;> omega
  have h2 := Nat.div_le_self (if first then delta / 700 else delta / 2) n
  have e : 455 * 35 ^ 7 = 29274380078125 := by decide
  have := adpGo_le 7 _ 0 (show (if first then delta / 700 else delta / 2) + (if first then delta / 700 else delta / 2) / n ≤ 455 * 35 ^ 7 by omega)
  omega

/-- An error is not 0. -/
theorem rdNum_err : ∀ (l : List UInt8) (bias k w i c : Nat), rdNum l bias k w i = .error c → c ≠ 0
  | [], _, _, _, _, c, h => by injection h with h; omega
  | b :: l, bias, k, w, i, c, h => by
    rw [rdNum] at h
    cases hp : pval b with
    | none => rw [hp] at h; injection h with h; omega
    | some d =>
      rw [hp] at h
      simp only at h
      split at h
      · injection h with h; omega
      · split at h
        · cases h
        · split at h
          · injection h with h; omega
          · exact rdNum_err l _ _ _ _ c h
theorem decGo_err : ∀ (f : Nat) (l : List UInt8) (s : PSt) (bias : Nat) (first : Bool) (c : Nat), decGo f l s bias first = .error c → c ≠ 0
  | 0, l, s, bias, first, c, h => by injection h with h; omega
  | f + 1, l, s, bias, first, c, h => by
    rw [decGo] at h
    split at h
    · cases h
    · split at h
      · rename_i e hr
        injection h with h
        subst h
        exact rdNum_err _ _ _ _ _ _ hr
      · split at h
        · injection h with h; omega
        · split at h
          · injection h with h; omega
          · exact decGo_err f _ _ _ _ c h
theorem dec_err_ne {l : List UInt8} {c : Nat} (h : decL l = .error c) : c ≠ 0 := by
  unfold decL at h
  split at h
  · injection h with h; omega
  · split at h
    · injection h with h; omega
    · split at h
      · injection h with h; omega
      · exact decGo_err _ _ _ _ _ c h
theorem encL_of {P : List Nat} (hP : ∀ p ∈ P, ptN p = true) (hl : P.length ≤ 256) : encL (P.map (fun n : Nat => (n : Int))) = (0, encB P) := by
  have h1 : (P.map (fun n : Nat => (n : Int))).all ptZ = true := by
    rw [List.all_eq_true]
    intro z hz
    obtain ⟨p, hp, rfl⟩ := List.mem_map.1 hz
    unfold ptZ
    rw [decide_eq_true (by omega)]
    exact hP p hp
  have h2 : (P.map (fun n : Nat => (n : Int))).map Int.toNat = P := by
    rw [List.map_map]
    conv => rhs; rw [← List.map_id P]
    exact List.map_congr_left fun p _ => rfl
  unfold encL
  rw [if_neg (by rw [List.length_map]; omega), if_pos h1, h2]
end

end Go.Proofs.YthoolifdmemceaaGreatDoor
