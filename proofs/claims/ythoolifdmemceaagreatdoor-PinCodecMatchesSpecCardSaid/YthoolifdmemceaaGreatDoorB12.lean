/-
Punycode in plain words: where the encoder stands between its rounds. No program.
min and max of two numbers. No program.
Contracts of Point, threshold, digit, value and adapt of the reference of layer 12.
-/
import Derived.Test.YthoolifdmemceaaGreatDoorB05
import Derived.Test.YthoolifdmemceaaGreatDoorB00
import Derived.Test.YthoolifdmemceaaGreatDoorRows
namespace Go.Proofs.YthoolifdmemceaaGreatDoor
section
open Go.RowKit

/-- The decoder behind the numbers D of the encoding of P. -/
def stP (P D : List Nat) : PSt := (PSt.start (basicN P)).run D
theorem stP_len (P D : List Nat) : (stP P D).out.length = (basicN P).length + D.length := PSt.run_len D (PSt.start (basicN P))
theorem stP_snoc (P D : List Nat) (e : Nat) : stP P (D ++ [e]) = (stP P D).step e := by
  unfold stP
  rw [PSt.run_append]
  rfl
/-- Between two rounds: D is written, n and e are the encoder's. -/
structure EncAt (P D : List Nat) (n e : Nat) : Prop where
  syn : Syn [] P n e (stP P D)
  rest : ∃ f, P.length < f + (stP P D).out.length ∧ D ++ outD f P n e (stP P D).out.length = encDs P
/-- In a round at m, A of A ++ B is done. -/
structure RndAt (P D A B : List Nat) (m e : Nat) : Prop where
  all : A ++ B = P
  mem : ptN m = true
  syn : Syn A B m e (stP P D)
  rest : ∃ f, P.length < f + (stP P D).out.length + (inD m B e).1.length ∧ D ++ ((inD m B e).1 ++ outD f P (m + 1) ((inD m B e).2 + 1) ((stP P D).out.length + (inD m B e).1.length)) = encDs P
theorem EncAt.first (P : List Nat) : EncAt P [] 128 0 := by
  refine ⟨⟨rfl, ?_, Nat.le_refl _⟩, P.length + 1, by omega, rfl⟩
  simp [stP, PSt.run, PSt.start]
theorem EncAt.round {P D : List Nat} {n e : Nat} (hP : ∀ p ∈ P, ptN p = true) (h : EncAt P D n e) (hd : (stP P D).out.length < P.length) :
    n ≤ leastG n P ∧ leastG n P ≤ 1114111 ∧ leastG n P ∈ P ∧ RndAt P D [] P (leastG n P) (e + (leastG n P - n) * ((stP P D).out.length + 1)) := by
  have ho : (stP P D).out = P.filter (fun x => decide (x < n)) := by have := h.syn.out; rwa [List.filter_nil, List.nil_append] at this
  obtain ⟨hm, hnm, hfl⟩ := least_facts hP (by rw [← ho]; exact hd)
  obtain ⟨f, hf, hr⟩ := h.rest
  refine ⟨hnm, ptN_le (hP _ hm), hm, ?_⟩
  cases f with
  | zero => omega
  | succ f =>
    rw [outD, if_pos hd] at hr
    generalize leastG n P = m at *
    refine ⟨rfl, hP m hm, ?_, ?_⟩
    · refine ⟨by rw [hfl, ← ho]; rfl, ?_, by have := h.syn.le; omega⟩
      have := h.syn.cnt
      have hle := h.syn.le
      rw [show m - (stP P D).n = (m - n) + (n - (stP P D).n) by omega, Nat.add_mul]
      simp at this ⊢
      omega
    · refine ⟨f, ?_, hr⟩
      have i1 := inD_count m P (e + (m - n) * ((stP P D).out.length + 1))
      have : 0 < (P.filter (fun x => decide (x = m))).length := by
        rw [← List.countP_eq_length_filter, List.countP_pos_iff]
        exact ⟨m, hm, by simp⟩
      omega
theorem RndAt.skip {P D A B : List Nat} {p m e : Nat} (h : RndAt P D A (p :: B) m e) (hp : p < m) : RndAt P D (A ++ [p]) B m (e + 1) := by
  obtain ⟨f, hf, hr⟩ := h.rest
  have hx : inD m (p :: B) e = inD m B (e + 1) := by rw [inD, if_pos hp]
  rw [hx] at hf hr
  exact ⟨by rw [← h.all]; simp, h.mem, h.syn.less hp, f, hf, hr⟩
theorem RndAt.pass {P D A B : List Nat} {p m e : Nat} (h : RndAt P D A (p :: B) m e) (h1 : ¬ p < m) (h2 : p ≠ m) : RndAt P D (A ++ [p]) B m e := by
  obtain ⟨f, hf, hr⟩ := h.rest
  have hx : inD m (p :: B) e = inD m B e := by rw [inD, if_neg h1, if_neg h2]
  rw [hx] at hf hr
  exact ⟨by rw [← h.all]; simp, h.mem, h.syn.more h1 h2, f, hf, hr⟩
theorem RndAt.emit {P D A B : List Nat} {m e : Nat} (h : RndAt P D A (m :: B) m e) : RndAt P (D ++ [e]) (A ++ [m]) B m 0 := by
  obtain ⟨f, hf, hr⟩ := h.rest
  have hx : inD m (m :: B) e = (e :: (inD m B 0).1, (inD m B 0).2) := by rw [inD, if_neg (by omega), if_pos rfl]
  rw [hx] at hf hr
  refine ⟨by rw [← h.all]; simp, h.mem, ?_, f, ?_, ?_⟩
  · rw [stP_snoc]; exact h.syn.emit.2.2
  · rw [stP_snoc, PSt.step_len]
    simp only [List.length_cons] at hf
    omega
  · rw [stP_snoc, PSt.step_len]
    simp only [List.length_cons, List.cons_append] at hr
    rw [List.append_assoc, List.cons_append, List.nil_append, show (stP P D).out.length + 1 + (inD m B 0).1.length = (stP P D).out.length + ((inD m B 0).1.length + 1) by omega]
    exact hr
theorem RndAt.done {P D A : List Nat} {m e : Nat} (h : RndAt P D A [] m e) : EncAt P D (m + 1) (e + 1) := by
  obtain ⟨f, hf, hr⟩ := h.rest
  have hA : A = P := by rw [← h.all, List.append_nil]
  subst hA
  have ho : (stP A D).out = A.filter (fun x => decide (x ≤ m)) := by have := h.syn.out; rwa [List.filter_nil, List.append_nil] at this
  refine ⟨⟨by rw [filter_lt_succ, ho]; rfl, ?_, by have := h.syn.le; omega⟩, f, ?_, ?_⟩
  · have := h.syn.cnt
    rw [← ho] at this
    have hle := h.syn.le
    rw [show m + 1 - (stP A D).n = (m - (stP A D).n) + 1 by omega, Nat.add_mul]
    simp
    omega
  · simpa [inD] using hf
  · simpa [inD] using hr
theorem EncAt.fin {P D : List Nat} {n e : Nat} (h : EncAt P D n e) (hd : ¬ (stP P D).out.length < P.length) : encDs P = D := by
  obtain ⟨f, _, hr⟩ := h.rest
  cases f with
  | zero => rw [← hr, outD, List.append_nil]
  | succ f => rw [← hr, outD, if_neg hd, List.append_nil]
theorem Syn.small {A B : List Nat} {n e : Nat} {s : PSt} (h : Syn A B n e s) (hn : n ≤ 1114112) (hl : (A ++ B).length ≤ 256) : e ≤ 17179869184 := by
  have a1 := List.length_filter_le (fun x => decide (x ≤ n)) A
  have a2 := List.length_filter_le (fun x => decide (x < n)) B
  have ho : s.out.length ≤ 256 := by
    rw [h.out, List.length_append]
    rw [List.length_append] at hl
    omega
  rw [List.length_append] at hl
  have hm : (n - s.n) * (s.out.length + 1) ≤ 1114112 * 257 := Nat.mul_le_mul (by omega) (by omega)
  have := h.cnt
  omega
theorem EncAt.small {P D : List Nat} {n e : Nat} (h : EncAt P D n e) (hn : n ≤ 1114112) (hl : P.length ≤ 256) : e ≤ 17179869184 := h.syn.small hn (by simpa using hl)
theorem RndAt.small {P D A B : List Nat} {m e : Nat} (h : RndAt P D A B m e) (hl : P.length ≤ 256) : e ≤ 17179869184 := h.syn.small (by have := ptN_le h.mem; omega) (by rw [h.all]; exact hl)
/-- The bytes behind the numbers D. -/
def outB (P D : List Nat) : List UInt8 := (basicN P).map UInt8.ofNat ++ ((if basicN P = [] then [] else [45]) ++ digsOf D 72 (basicN P).length true)
def biasB (P D : List Nat) : Nat := biasOf D 72 (basicN P).length true
theorem outB_snoc (P D : List Nat) (e : Nat) : outB P (D ++ [e]) = outB P D ++ (genV e 0 (biasB P D)).map digB := by
  unfold outB biasB
  rw [digsOf_snoc]
  simp only [List.append_assoc]
theorem biasB_snoc (P D : List Nat) (e : Nat) : biasB P (D ++ [e]) = adp e ((stP P D).out.length + 1) D.isEmpty := by
  unfold biasB
  rw [biasOf_snoc, stP_len, Bool.true_and]
theorem outB_len {P D R : List Nat} (hP : ∀ p ∈ P, ptN p = true) (hl : P.length ≤ 256) (h : D ++ R = encDs P) : (outB P D).length ≤ 3400 := by
  have hs := ok_small _ _ (encDs_run hP hl).2
  have h1 := digsOf_len 11 D 72 (basicN P).length true (fun d hd => hs d (by rw [← h]; simp [hd]))
  have h2 := encDs_len hP hl
  rw [← h, List.length_append] at h2
  unfold outB
  rw [List.length_append, List.length_append, List.length_map]
  split
  · simp; omega
  · simp; omega
theorem EncAt.len {P D : List Nat} {n e : Nat} (h : EncAt P D n e) (hP : ∀ p ∈ P, ptN p = true) (hl : P.length ≤ 256) : (outB P D).length ≤ 3400 := by
  obtain ⟨f, _, hr⟩ := h.rest
  exact outB_len hP hl hr
theorem RndAt.len {P D A B : List Nat} {m e : Nat} (h : RndAt P D A B m e) (hP : ∀ p ∈ P, ptN p = true) (hl : P.length ≤ 256) : (outB P D).length ≤ 3400 := by
  obtain ⟨f, _, hr⟩ := h.rest
  exact outB_len hP hl hr
theorem bias_small : ∀ (D : List Nat) (bias done : Nat) (first : Bool), bias ≤ 1000 → (∀ d ∈ D, d < 10 ^ 11) → biasOf D bias done first ≤ 1000
  | [], bias, _, _, h, _ => h
  | d :: r, bias, done, first, _, h => by
    rw [biasOf]
    have e : (10 : Nat) ^ 11 = 100000000000 := by decide
    exact bias_small r _ _ _ (adp_le d (done + 1) first (by have := h d (by simp); omega)) (fun x hx => h x (by simp [hx]))
theorem biasB_le {P D R : List Nat} (hP : ∀ p ∈ P, ptN p = true) (hl : P.length ≤ 256) (h : D ++ R = encDs P) : biasB P D ≤ 1000 := by
  have hs := ok_small _ _ (encDs_run hP hl).2
  exact bias_small D 72 _ true (by omega) (fun d hd => hs d (by rw [← h]; simp [hd]))
theorem RndAt.bias {P D A B : List Nat} {m e : Nat} (h : RndAt P D A B m e) (hP : ∀ p ∈ P, ptN p = true) (hl : P.length ≤ 256) : biasB P D ≤ 1000 := by
  obtain ⟨f, _, hr⟩ := h.rest
  exact biasB_le hP hl hr
theorem RndAt.outlen {P D A B : List Nat} {m e : Nat} (h : RndAt P D A B m e) : (stP P D).out.length ≤ P.length := by
  have a1 := List.length_filter_le (fun x => decide (x ≤ m)) A
  have a2 := List.length_filter_le (fun x => decide (x < m)) B
  rw [h.syn.out, List.length_append, ← h.all, List.length_append]
  omega
theorem leastG_30 (n : Nat) : ∀ P : List Nat, leastG n P ≤ 1073741824
  | [] => Nat.le_refl _
  | p :: P => by
    rw [leastG]
    have := leastG_30 n P
    split
    · exact Nat.le_trans (Nat.min_le_right _ _) this
    · exact this
end

section
theorem min_two {P : Program} (w : World) (ts : Array TypeId) (t : TypeId) (a b r : Int) (hr : min a b = r) :
    (Builtin.min_ ts t #[.int .i64 a, .int .i64 b]).run P w = .ok (.int .i64 r) w := by
  have e1 : (if b < a then b else a) = min a b := by omega
  simp [Builtin.min_, Builtin.min2, List.foldlM, e1]
  omega
theorem max_two {P : Program} (w : World) (ts : Array TypeId) (t : TypeId) (a b r : Int) (hr : max a b = r) :
    (Builtin.max_ ts t #[.int .i64 a, .int .i64 b]).run P w = .ok (.int .i64 r) w := by
  have e1 : (if a < b then b else a) = max a b := by omega
  simp [Builtin.max_, Builtin.max2, List.foldlM, e1]
  omega
end

section
open Go.RowKit

theorem thr_int (k bias : Nat) : max (1 : Int) (min 26 (36 * ((k : Int) + 1) - (bias : Int))) = ((thr k bias : Nat) : Int) := by unfold thr; omega
theorem ptZ_nat (n : Nat) : ptZ (n : Int) = ptN n := by
  unfold ptZ
  rw [decide_eq_true (by omega)]
  rfl

theorem refPoint_any (z : Int) (w : World) :
    Calls Tryz.prog 65 #[.int .i64 z] w fun e w' => e = .returned (.bool (ptZ z)) ∧ w = w' := by
  by_cases h0 : 0 ≤ z
  · by_cases h1 : z ≤ 1114111
    · by_cases h2 : z < 55296
      · have HE : Hid (ptZ z = true) := by show _ = _; unfold ptZ ptN; simp; omega
        have d0 : decide ((0 : Int) ≤ z) = true := decide_eq_true h0
        have d1 : decide (z ≤ 1114111) = true := decide_eq_true h1
        have d2 : decide (z < 55296) = true := decide_eq_true h2
        go_enter Tryz.func65, Tryz.ntmps65
        go_wp2
        go_ret
        exact ⟨ret_bool HE.out.symm, rfl⟩
      · by_cases h3 : 57343 < z
        · have HE : Hid (ptZ z = true) := by show _ = _; unfold ptZ ptN; simp; omega
          have d0 : decide ((0 : Int) ≤ z) = true := decide_eq_true h0
          have d1 : decide (z ≤ 1114111) = true := decide_eq_true h1
          have d2 : decide (z < 55296) = false := decide_eq_false h2
          have d3 : decide ((57343 : Int) < z) = true := decide_eq_true h3
          go_enter Tryz.func65, Tryz.ntmps65
          go_wp2
          go_ret
          exact ⟨ret_bool HE.out.symm, rfl⟩
        · have HE : Hid (ptZ z = false) := by show _ = _; unfold ptZ ptN; simp; omega
          have d0 : decide ((0 : Int) ≤ z) = true := decide_eq_true h0
          have d1 : decide (z ≤ 1114111) = true := decide_eq_true h1
          have d2 : decide (z < 55296) = false := decide_eq_false h2
          have d3 : decide ((57343 : Int) < z) = false := decide_eq_false h3
          go_enter Tryz.func65, Tryz.ntmps65
          go_wp2
          go_ret
          exact ⟨ret_bool HE.out.symm, rfl⟩
    · have HE : Hid (ptZ z = false) := by show _ = _; unfold ptZ ptN; simp; omega
      have d0 : decide ((0 : Int) ≤ z) = true := decide_eq_true h0
      have d1 : decide (z ≤ 1114111) = false := decide_eq_false h1
      go_enter Tryz.func65, Tryz.ntmps65
      go_wp2
      go_ret
      exact ⟨ret_bool HE.out.symm, rfl⟩
  · have HE : Hid (ptZ z = false) := by show _ = _; unfold ptZ; simp; omega
    have d0 : decide ((0 : Int) ≤ z) = false := decide_eq_false h0
    go_enter Tryz.func65, Tryz.ntmps65
    go_wp2
    go_ret
    exact ⟨ret_bool HE.out.symm, rfl⟩

theorem refThr_any (k bias : Nat) (hk : k ≤ 1000000000) (hb : bias ≤ 1000000000) (w : World) :
    Calls Tryz.prog 63 #[.int .i64 (k : Int), .int .i64 (bias : Int)] w fun e w' => e = .returned (.int .i64 (thr k bias : Nat)) ∧ w = w' := by
  obtain ⟨x, hx⟩ : ∃ x, min (26 : Int) (36 * ((k : Int) + 1) - (bias : Int)) = x := ⟨_, rfl⟩
  have hy : max (1 : Int) x = (thr k bias : Nat) := by rw [← hx]; exact thr_int k bias
  have hmin : ∀ (W : World) ts ty, (Builtin.min_ ts ty #[.int .i64 26, .int .i64 (36 * ((k : Int) + 1) - (bias : Int))]).run Tryz.prog W = .ok (.int .i64 x) W := fun W ts ty => min_two W ts ty _ _ _ hx
  have hmax : ∀ (W : World) ts ty, (Builtin.max_ ts ty #[.int .i64 1, .int .i64 x]).run Tryz.prog W = .ok (.int .i64 (thr k bias : Nat)) W := fun W ts ty => max_two W ts ty _ _ _ hy
  clear hx hy
  go_enter Tryz.func63, Tryz.ntmps63
  go_wp2
  go_ret
  exact ⟨rfl, rfl⟩

theorem refDig_any (d : Nat) (hd : d < 36) (w : World) :
    Calls Tryz.prog 66 #[.int .i64 (d : Int)] w fun e w' => e = .returned (.int .u8 ((digB d).toNat : Int)) ∧ w = w' := by
  by_cases h : d < 26
  · have d1 : decide ((d : Int) < 26) = true := decide_eq_true (by omega)
    have HE : Hid (((digB d).toNat : Int) = 97 + (d : Int)) := by
      show _ = _
      unfold digB
      rw [if_pos h, UInt8.toNat_ofNat']
      omega
    go_enter Tryz.func66, Tryz.ntmps66
    go_wp2
    go_ret
    exact ⟨ret_int HE.out.symm, rfl⟩
  · have d1 : decide ((d : Int) < 26) = false := decide_eq_false (by omega)
    have HE : Hid (((digB d).toNat : Int) = 48 + (d : Int) - 26) := by
      show _ = _
      unfold digB
      rw [if_neg h, UInt8.toNat_ofNat']
      omega
    go_enter Tryz.func66, Tryz.ntmps66
    go_wp2
    go_ret
    exact ⟨ret_int HE.out.symm, rfl⟩

/-- The value of a digit, or -1. -/
def valZ (b : UInt8) : Int := match pval b with
  | some d => (d : Int)
  | none => -1
theorem refVal_any (b : UInt8) (w : World) :
    Calls Tryz.prog 62 #[.int .u8 (b.toNat : Int)] w fun e w' => e = .returned (.int .i64 (valZ b)) ∧ w = w' := by
  have hlt := b.toNat_lt
  by_cases h1 : 97 ≤ b.toNat ∧ b.toNat ≤ 122
  · have HE : Hid (valZ b = (b.toNat : Int) - 97) := by show _ = _; unfold valZ pval; rw [if_pos h1]; show ((b.toNat - 97 : Nat) : Int) = _; omega
    have d1 : decide ((97 : Int) ≤ (b.toNat : Int)) = true := decide_eq_true (by omega)
    have d2 : decide ((b.toNat : Int) ≤ 122) = true := decide_eq_true (by omega)
    go_enter Tryz.func62, Tryz.ntmps62
    go_wp2
    go_ret
    exact ⟨ret_int HE.out.symm, rfl⟩
  · by_cases h2 : 65 ≤ b.toNat ∧ b.toNat ≤ 90
    · have HE : Hid (valZ b = (b.toNat : Int) - 65) := by show _ = _; unfold valZ pval; rw [if_neg h1, if_pos h2]; show ((b.toNat - 65 : Nat) : Int) = _; omega
      have d1 : decide ((97 : Int) ≤ (b.toNat : Int)) = false := decide_eq_false (by omega)
      have d2 : decide ((65 : Int) ≤ (b.toNat : Int)) = true := decide_eq_true (by omega)
      have d3 : decide ((b.toNat : Int) ≤ 90) = true := decide_eq_true (by omega)
      go_enter Tryz.func62, Tryz.ntmps62
      go_wp2
      go_ret
      exact ⟨ret_int HE.out.symm, rfl⟩
    · by_cases h3 : 48 ≤ b.toNat ∧ b.toNat ≤ 57
      · have HE : Hid (valZ b = (b.toNat : Int) - 48 + 26) := by show _ = _; unfold valZ pval; rw [if_neg h1, if_neg h2, if_pos h3]; show ((b.toNat - 22 : Nat) : Int) = _; omega
        have d1 : decide ((97 : Int) ≤ (b.toNat : Int)) = false := decide_eq_false (by omega)
        have d2 : decide ((65 : Int) ≤ (b.toNat : Int)) = false := decide_eq_false (by omega)
        have d3 : decide ((48 : Int) ≤ (b.toNat : Int)) = true := decide_eq_true (by omega)
        have d4 : decide ((b.toNat : Int) ≤ 57) = true := decide_eq_true (by omega)
        go_enter Tryz.func62, Tryz.ntmps62
        go_wp2
        go_ret
        exact ⟨ret_int HE.out.symm, rfl⟩
      · have HE : Hid (valZ b = -1) := by show _ = _; unfold valZ pval; rw [if_neg h1, if_neg h2, if_neg h3]
        have c1 : (decide ((97 : Int) ≤ (b.toNat : Int)) && decide ((b.toNat : Int) ≤ 122)) = false := by rw [Bool.and_eq_false_iff, decide_eq_false_iff_not, decide_eq_false_iff_not]; omega
        have c2 : (decide ((65 : Int) ≤ (b.toNat : Int)) && decide ((b.toNat : Int) ≤ 90)) = false := by rw [Bool.and_eq_false_iff, decide_eq_false_iff_not, decide_eq_false_iff_not]; omega
        have c3 : (decide ((48 : Int) ≤ (b.toNat : Int)) && decide ((b.toNat : Int) ≤ 57)) = false := by rw [Bool.and_eq_false_iff, decide_eq_false_iff_not, decide_eq_false_iff_not]; omega
        go_enter Tryz.func62, Tryz.ntmps62
        go_wp2
        all_goals (go_ret; exact ⟨ret_int HE.out.symm, rfl⟩)

set_option maxHeartbeats 800000 in
theorem refAdp_any (delta n : Nat) (first : Bool) (hd : delta ≤ 2199023255552) (hn : 1 ≤ n) (hn2 : n ≤ 1000000000) (w : World) :
    Calls Tryz.prog 64 #[.int .i64 (delta : Int), .int .i64 (n : Int), .bool first] w fun e w' => e = .returned (.int .i64 (adp delta n first : Nat)) ∧ w = w' := by
  obtain ⟨R, hR⟩ : ∃ R, R = adp delta n first := ⟨_, rfl⟩
  rw [← hR]
  have e700 : Int.tdiv (delta : Int) 700 = ((delta / 700 : Nat) : Int) := by rw [Int.tdiv_eq_ediv_of_nonneg (by omega)]; omega
  have e2 : Int.tdiv (delta : Int) 2 = ((delta / 2 : Nat) : Int) := by rw [Int.tdiv_eq_ediv_of_nonneg (by omega)]; omega
  have key : ∀ d0 : Nat, d0 ≤ 1099511627776 → Int.tdiv (d0 : Int) (n : Int) = ((d0 / n : Nat) : Int) := by
    intro d0 _
    rw [Int.tdiv_eq_ediv_of_nonneg (by omega)]
    exact (Int.natCast_ediv d0 n).symm
  have hn0 : ¬ (n : Int) = 0 := by omega
  cases first with
  | true =>
    obtain ⟨d0, hd0⟩ : ∃ d0 : Nat, d0 = delta / 700 := ⟨_, rfl⟩
    have hb0 : d0 ≤ 1099511627776 := by omega
    have k0 := key d0 hb0
    obtain ⟨q, hq⟩ : ∃ q : Nat, q = d0 / n := ⟨_, rfl⟩
    have hqb : q ≤ d0 := by rw [hq]; exact Nat.div_le_self _ _
    rw [← hq] at k0
    rw [← hd0] at e700
    have HA : Hid (adpGo (d0 + q) 0 = R) := Lib.hid (by rw [hR, hq, hd0]; rfl)
    clear key hq hd0 hR e2
    go_enter Tryz.func64, Tryz.ntmps64
    go_wp2
    go_loop [0, 7] (fun d k => ∃ D K : Nat, d = .int .i64 D ∧ k = .int .i64 K ∧ K + D ≤ 4398046511104 ∧ Hid (adpGo D K = R)) (fun d _ => (intOf d).toNat)
    case atStart => exact ⟨d0 + q, 0, by go_num, rfl, by omega, HA⟩
    case round =>
      obtain ⟨D, K, rfl, rfl, hDK, HG⟩ := hrel
      by_cases h455 : 455 < D
      · have hc : decide ((455 : Int) < (D : Int)) = true := decide_eq_true (by omega)
        have h35 : Int.tdiv (D : Int) 35 = ((D / 35 : Nat) : Int) := by rw [Int.tdiv_eq_ediv_of_nonneg (by omega)]; omega
        have HG2 : Hid (adpGo (D / 35) (K + 36) = R) := by
          show _ = _
          rw [← HG.out, adpGo.eq_def D K, if_pos h455]
        go_wp2
        go_round
        case rel => exact ⟨D / 35, K + 36, by go_num, by go_num, by omega, HG2⟩
        case measure => simp [intOf]; omega
      · have hc : decide ((455 : Int) < (D : Int)) = false := decide_eq_false (by omega)
        have h38 : Int.tdiv (36 * (D : Int)) ((D : Int) + 38) = ((36 * D / (D + 38) : Nat) : Int) := by
          rw [Int.tdiv_eq_ediv_of_nonneg (by omega)]
          exact (Int.natCast_ediv (36 * D) (D + 38)).symm
        have hq2 : 36 * D / (D + 38) ≤ 36 := by
          refine Nat.div_le_of_le_mul ?_
          rw [Nat.add_mul]
          omega
        have hne : ¬ (D : Int) + 38 = 0 := by omega
        have HG2 : Hid (((K + 36 * D / (D + 38) : Nat) : Int) = (R : Int)) := by
          show _ = _
          rw [← HG.out, adpGo.eq_def D K, if_neg h455]
        obtain ⟨z, hz⟩ : ∃ z, z = 36 * D / (D + 38) := ⟨_, rfl⟩
        rw [← hz] at h38 hq2 HG2
        clear hz
        go_wp2
        go_ret
        exact ⟨ret_int (by rw [← HG2.out]; omega), rfl⟩
  | false =>
    obtain ⟨d0, hd0⟩ : ∃ d0 : Nat, d0 = delta / 2 := ⟨_, rfl⟩
    have hb0 : d0 ≤ 1099511627776 := by omega
    have k0 := key d0 hb0
    obtain ⟨q, hq⟩ : ∃ q : Nat, q = d0 / n := ⟨_, rfl⟩
    have hqb : q ≤ d0 := by rw [hq]; exact Nat.div_le_self _ _
    rw [← hq] at k0
    rw [← hd0] at e2
    have HA : Hid (adpGo (d0 + q) 0 = R) := Lib.hid (by rw [hR, hq, hd0]; rfl)
    clear key hq hd0 hR e700
    go_enter Tryz.func64, Tryz.ntmps64
    go_wp2
    go_loop [0, 7] (fun d k => ∃ D K : Nat, d = .int .i64 D ∧ k = .int .i64 K ∧ K + D ≤ 4398046511104 ∧ Hid (adpGo D K = R)) (fun d _ => (intOf d).toNat)
    case atStart => exact ⟨d0 + q, 0, by go_num, rfl, by omega, HA⟩
    case round =>
      obtain ⟨D, K, rfl, rfl, hDK, HG⟩ := hrel
      by_cases h455 : 455 < D
      · have hc : decide ((455 : Int) < (D : Int)) = true := decide_eq_true (by omega)
        have h35 : Int.tdiv (D : Int) 35 = ((D / 35 : Nat) : Int) := by rw [Int.tdiv_eq_ediv_of_nonneg (by omega)]; omega
        have HG2 : Hid (adpGo (D / 35) (K + 36) = R) := by
          show _ = _
          rw [← HG.out, adpGo.eq_def D K, if_pos h455]
        go_wp2
        go_round
        case rel => exact ⟨D / 35, K + 36, by go_num, by go_num, by omega, HG2⟩
        case measure => simp [intOf]; omega
      · have hc : decide ((455 : Int) < (D : Int)) = false := decide_eq_false (by omega)
        have h38 : Int.tdiv (36 * (D : Int)) ((D : Int) + 38) = ((36 * D / (D + 38) : Nat) : Int) := by
          rw [Int.tdiv_eq_ediv_of_nonneg (by omega)]
          exact (Int.natCast_ediv (36 * D) (D + 38)).symm
        have hq2 : 36 * D / (D + 38) ≤ 36 := by
          refine Nat.div_le_of_le_mul ?_
          rw [Nat.add_mul]
          omega
        have hne : ¬ (D : Int) + 38 = 0 := by omega
        have HG2 : Hid (((K + 36 * D / (D + 38) : Nat) : Int) = (R : Int)) := by
          show _ = _
          rw [← HG.out, adpGo.eq_def D K, if_neg h455]
        obtain ⟨z, hz⟩ : ∃ z, z = 36 * D / (D + 38) := ⟨_, rfl⟩
        rw [← hz] at h38 hq2 HG2
        clear hz
        go_wp2
        go_ret
        exact ⟨ret_int (by rw [← HG2.out]; omega), rfl⟩
end

end Go.Proofs.YthoolifdmemceaaGreatDoor
