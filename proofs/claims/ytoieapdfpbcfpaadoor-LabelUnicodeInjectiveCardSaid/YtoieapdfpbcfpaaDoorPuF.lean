/-
  Punycode in plain words: where the encoder stands between its rounds. No program.
-/
import Derived.Test.YtoieapdfpbcfpaaDoorPuD
namespace Go.Proofs.YtoieapdfpbcfpaaDoor
open Go.RowKit

/-- The decoder behind the numbers D of the encoding of P. -/
def stP (P D : List Nat) : PSt := (PSt.start (basicN P)).run D
theorem stP_len (P D : List Nat) : (stP P D).out.length = (basicN P).length + D.length := PSt.run_len D (PSt.start (basicN P))
theorem stP_snoc (P D : List Nat) (e : Nat) : stP P (D ++ [e]) = (stP P D).step e := by
  unfold stP
  rw [PSt.run_append]
  rfl
/-- Between two rounds: D is written, n and e are the encoder's. -/
structure EncAt (P D : List Nat) (n e : Nat) : Prop where
  syn : Syn [] P n e (stP P D)
  rest : ∃ f, P.length < f + (stP P D).out.length ∧ D ++ outD f P n e (stP P D).out.length = encDs P
/-- In a round at m, A of A ++ B is done. -/
structure RndAt (P D A B : List Nat) (m e : Nat) : Prop where
  all : A ++ B = P
  mem : ptN m = true
  syn : Syn A B m e (stP P D)
  rest : ∃ f, P.length < f + (stP P D).out.length + (inD m B e).1.length ∧ D ++ ((inD m B e).1 ++ outD f P (m + 1) ((inD m B e).2 + 1) ((stP P D).out.length + (inD m B e).1.length)) = encDs P
theorem EncAt.first (P : List Nat) : EncAt P [] 128 0 := by
  refine ⟨⟨rfl, ?_, Nat.le_refl _⟩, P.length + 1, by omega, rfl⟩
  simp [stP, PSt.run, PSt.start]
theorem EncAt.round {P D : List Nat} {n e : Nat} (hP : ∀ p ∈ P, ptN p = true) (h : EncAt P D n e) (hd : (stP P D).out.length < P.length) :
    n ≤ leastG n P ∧ leastG n P ≤ 1114111 ∧ leastG n P ∈ P ∧ RndAt P D [] P (leastG n P) (e + (leastG n P - n) * ((stP P D).out.length + 1)) := by
  have ho : (stP P D).out = P.filter (fun x => decide (x < n)) := by have := h.syn.out; rwa [List.filter_nil, List.nil_append] at this
  obtain ⟨hm, hnm, hfl⟩ := least_facts hP (by rw [← ho]; exact hd)
  obtain ⟨f, hf, hr⟩ := h.rest
  refine ⟨hnm, ptN_le (hP _ hm), hm, ?_⟩
  cases f with
  | zero => omega
  | succ f =>
    rw [outD, if_pos hd] at hr
    generalize leastG n P = m at *
    refine ⟨rfl, hP m hm, ?_, ?_⟩
    · refine ⟨by rw [hfl, ← ho]; rfl, ?_, by have := h.syn.le; omega⟩
      have := h.syn.cnt
      have hle := h.syn.le
      rw [show m - (stP P D).n = (m - n) + (n - (stP P D).n) by omega, Nat.add_mul]
      simp at this ⊢
      omega
    · refine ⟨f, ?_, hr⟩
      have i1 := inD_count m P (e + (m - n) * ((stP P D).out.length + 1))
      have : 0 < (P.filter (fun x => decide (x = m))).length := by
        rw [← List.countP_eq_length_filter, List.countP_pos_iff]
        exact ⟨m, hm, by simp⟩
      omega
theorem RndAt.skip {P D A B : List Nat} {p m e : Nat} (h : RndAt P D A (p :: B) m e) (hp : p < m) : RndAt P D (A ++ [p]) B m (e + 1) := by
  obtain ⟨f, hf, hr⟩ := h.rest
  have hx : inD m (p :: B) e = inD m B (e + 1) := by rw [inD, if_pos hp]
  rw [hx] at hf hr
  exact ⟨by rw [← h.all]; simp, h.mem, h.syn.less hp, f, hf, hr⟩
theorem RndAt.pass {P D A B : List Nat} {p m e : Nat} (h : RndAt P D A (p :: B) m e) (h1 : ¬ p < m) (h2 : p ≠ m) : RndAt P D (A ++ [p]) B m e := by
  obtain ⟨f, hf, hr⟩ := h.rest
  have hx : inD m (p :: B) e = inD m B e := by rw [inD, if_neg h1, if_neg h2]
  rw [hx] at hf hr
  exact ⟨by rw [← h.all]; simp, h.mem, h.syn.more h1 h2, f, hf, hr⟩
theorem RndAt.emit {P D A B : List Nat} {m e : Nat} (h : RndAt P D A (m :: B) m e) : RndAt P (D ++ [e]) (A ++ [m]) B m 0 := by
  obtain ⟨f, hf, hr⟩ := h.rest
  have hx : inD m (m :: B) e = (e :: (inD m B 0).1, (inD m B 0).2) := by rw [inD, if_neg (by omega), if_pos rfl]
  rw [hx] at hf hr
  refine ⟨by rw [← h.all]; simp, h.mem, ?_, f, ?_, ?_⟩
  · rw [stP_snoc]; exact h.syn.emit.2.2
  · rw [stP_snoc, PSt.step_len]
    simp only [List.length_cons] at hf
    omega
  · rw [stP_snoc, PSt.step_len]
    simp only [List.length_cons, List.cons_append] at hr
    rw [List.append_assoc, List.cons_append, List.nil_append, show (stP P D).out.length + 1 + (inD m B 0).1.length = (stP P D).out.length + ((inD m B 0).1.length + 1) by omega]
    exact hr
theorem RndAt.done {P D A : List Nat} {m e : Nat} (h : RndAt P D A [] m e) : EncAt P D (m + 1) (e + 1) := by
  obtain ⟨f, hf, hr⟩ := h.rest
  have hA : A = P := by rw [← h.all, List.append_nil]
  subst hA
  have ho : (stP A D).out = A.filter (fun x => decide (x ≤ m)) := by have := h.syn.out; rwa [List.filter_nil, List.append_nil] at this
  refine ⟨⟨by rw [filter_lt_succ, ho]; rfl, ?_, by have := h.syn.le; omega⟩, f, ?_, ?_⟩
  · have := h.syn.cnt
    rw [← ho] at this
    have hle := h.syn.le
    rw [show m + 1 - (stP A D).n = (m - (stP A D).n) + 1 by omega, Nat.add_mul]
    simp
    omega
  · simpa [inD] using hf
  · simpa [inD] using hr
theorem EncAt.fin {P D : List Nat} {n e : Nat} (h : EncAt P D n e) (hd : ¬ (stP P D).out.length < P.length) : encDs P = D := by
  obtain ⟨f, _, hr⟩ := h.rest
  cases f with
  | zero => rw [← hr, outD, List.append_nil]
  | succ f => rw [← hr, outD, if_neg hd, List.append_nil]
theorem Syn.small {A B : List Nat} {n e : Nat} {s : PSt} (h : Syn A B n e s) (hn : n ≤ 1114112) (hl : (A ++ B).length ≤ 256) : e ≤ 17179869184 := by
  have a1 := List.length_filter_le (fun x => decide (x ≤ n)) A
  have a2 := List.length_filter_le (fun x => decide (x < n)) B
  have ho : s.out.length ≤ 256 := by
    rw [h.out, List.length_append]
    rw [List.length_append] at hl
    omega
  rw [List.length_append] at hl
  have hm : (n - s.n) * (s.out.length + 1) ≤ 1114112 * 257 := Nat.mul_le_mul (by omega) (by omega)
  have := h.cnt
  omega
theorem EncAt.small {P D : List Nat} {n e : Nat} (h : EncAt P D n e) (hn : n ≤ 1114112) (hl : P.length ≤ 256) : e ≤ 17179869184 := h.syn.small hn (by simpa using hl)
theorem RndAt.small {P D A B : List Nat} {m e : Nat} (h : RndAt P D A B m e) (hl : P.length ≤ 256) : e ≤ 17179869184 := h.syn.small (by have := ptN_le h.mem; omega) (by rw [h.all]; exact hl)
/-- The bytes behind the numbers D. -/
def outB (P D : List Nat) : List UInt8 := (basicN P).map UInt8.ofNat ++ ((if basicN P = [] then [] else [45]) ++ digsOf D 72 (basicN P).length true)
def biasB (P D : List Nat) : Nat := biasOf D 72 (basicN P).length true
theorem outB_snoc (P D : List Nat) (e : Nat) : outB P (D ++ [e]) = outB P D ++ (genV e 0 (biasB P D)).map digB := by
  unfold outB biasB
  rw [digsOf_snoc]
  simp only [List.append_assoc]
theorem biasB_snoc (P D : List Nat) (e : Nat) : biasB P (D ++ [e]) = adp e ((stP P D).out.length + 1) D.isEmpty := by
  unfold biasB
  rw [biasOf_snoc, stP_len, Bool.true_and]
theorem outB_len {P D R : List Nat} (hP : ∀ p ∈ P, ptN p = true) (hl : P.length ≤ 256) (h : D ++ R = encDs P) : (outB P D).length ≤ 3400 := by
  have hs := ok_small _ _ (encDs_run hP hl).2
  have h1 := digsOf_len 11 D 72 (basicN P).length true (fun d hd => hs d (by rw [← h]; simp [hd]))
  have h2 := encDs_len hP hl
  rw [← h, List.length_append] at h2
  unfold outB
  rw [List.length_append, List.length_append, List.length_map]
  split
  · simp; omega
  · simp; omega
theorem EncAt.len {P D : List Nat} {n e : Nat} (h : EncAt P D n e) (hP : ∀ p ∈ P, ptN p = true) (hl : P.length ≤ 256) : (outB P D).length ≤ 3400 := by
  obtain ⟨f, _, hr⟩ := h.rest
  exact outB_len hP hl hr
theorem RndAt.len {P D A B : List Nat} {m e : Nat} (h : RndAt P D A B m e) (hP : ∀ p ∈ P, ptN p = true) (hl : P.length ≤ 256) : (outB P D).length ≤ 3400 := by
  obtain ⟨f, _, hr⟩ := h.rest
  exact outB_len hP hl hr
theorem bias_small : ∀ (D : List Nat) (bias done : Nat) (first : Bool), bias ≤ 1000 → (∀ d ∈ D, d < 10 ^ 11) → biasOf D bias done first ≤ 1000
  | [], bias, _, _, h, _ => h
  | d :: r, bias, done, first, _, h => by
    rw [biasOf]
    have e : (10 : Nat) ^ 11 = 100000000000 := by decide
    exact bias_small r _ _ _ (adp_le d (done + 1) first (by have := h d (by simp); omega)) (fun x hx => h x (by simp [hx]))
theorem biasB_le {P D R : List Nat} (hP : ∀ p ∈ P, ptN p = true) (hl : P.length ≤ 256) (h : D ++ R = encDs P) : biasB P D ≤ 1000 := by
  have hs := ok_small _ _ (encDs_run hP hl).2
  exact bias_small D 72 _ true (by omega) (fun d hd => hs d (by rw [← h]; simp [hd]))
theorem RndAt.bias {P D A B : List Nat} {m e : Nat} (h : RndAt P D A B m e) (hP : ∀ p ∈ P, ptN p = true) (hl : P.length ≤ 256) : biasB P D ≤ 1000 := by
  obtain ⟨f, _, hr⟩ := h.rest
  exact biasB_le hP hl hr
theorem RndAt.outlen {P D A B : List Nat} {m e : Nat} (h : RndAt P D A B m e) : (stP P D).out.length ≤ P.length := by
  have a1 := List.length_filter_le (fun x => decide (x ≤ m)) A
  have a2 := List.length_filter_le (fun x => decide (x < m)) B
  rw [h.syn.out, List.length_append, ← h.all, List.length_append]
  omega
theorem leastG_30 (n : Nat) : ∀ P : List Nat, leastG n P ≤ 1073741824
  | [] => Nat.le_refl _
  | p :: P => by
    rw [leastG]
    have := leastG_30 n P
    split
    · exact Nat.le_trans (Nat.min_le_right _ _) this
    · exact this

end Go.Proofs.YtoieapdfpbcfpaaDoor
