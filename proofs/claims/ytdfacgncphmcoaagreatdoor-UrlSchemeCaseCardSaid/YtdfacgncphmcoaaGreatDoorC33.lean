/-
Punycode in plain words: where the encoder stands between its rounds. No program.
Contracts of Point, threshold, digit, value and adapt of the reference of layer 12.
Contract of the reference's Encode of layer 12, of valid code points.
Contract of the reference's Encode of layer 12, of any numbers.
append of a slice as a step of a drawn region. No program.
Region 47 of the reference's Decode of layer 12: an insertion by three appends, in any order of evaluation.
Contract of the reference's Decode of layer 12.
Contracts of the reference of layer 13: proper, Valid.
Contracts of package label's small functions: isLabelByte, isPlain, isNotBasic, isUpper, and of slices.ContainsFunc with the last two.
Contracts of slices.IndexFunc and slices.ContainsFunc with package label's two tests.
What is said of the text of a list of code points; no function.
Contracts of package label's pointsOf and textOf.
Contract of the reference's Points of layer 13.
Contracts of the reference of layer 13: Valid, ToASCII.
-/
import Derived.Test.YtdfacgncphmcoaaGreatDoorC01
import Derived.Test.YtdfacgncphmcoaaGreatDoorRows
import Derived.Test.YtdfacgncphmcoaaGreatDoorC17
import Derived.Test.YtdfacgncphmcoaaGreatDoorC07
import Derived.Deep.LoopGhost
import Derived.BigQuiet
import Derived.Deep.CutRange
import Derived.Deep.CutBlock
import Derived.Deep.RegionHeld3
import Derived.Deep.AppendLies
import Derived.Test.YtdfacgncphmcoaaGreatDoorC12
import Derived.Test.YtdfacgncphmcoaaGreatDoorC32
import Derived.Deep.QuietTactic
import Derived.Test.YtdfacgncphmcoaaGreatDoorC02
import Derived.Test.YtdfacgncphmcoaaGreatDoorC28
namespace Go.Proofs.YtdfacgncphmcoaaGreatDoor
section
open Go.RowKit
/-- The decoder behind the numbers D of the encoding of P. -/
def stP (P D : List Nat) : PSt := (PSt.start (basicN P)).run D
theorem stP_len (P D : List Nat) : (stP P D).out.length = (basicN P).length + D.length := PSt.run_len D (PSt.start (basicN P))
theorem stP_snoc (P D : List Nat) (e : Nat) : stP P (D ++ [e]) = (stP P D).step e := by
  unfold stP
  rw [PSt.run_append]
  rfl
/-- Between two rounds: D is written, n and e are the encoder's. -/
structure EncAt (P D : List Nat) (n e : Nat) : Prop where
  syn : Syn [] P n e (stP P D)
  rest : ∃ f, P.length < f + (stP P D).out.length ∧ D ++ outD f P n e (stP P D).out.length = encDs P
/-- In a round at m, A of A ++ B is done. -/
structure RndAt (P D A B : List Nat) (m e : Nat) : Prop where
  all : A ++ B = P
  mem : ptN m = true
  syn : Syn A B m e (stP P D)
  rest : ∃ f, P.length < f + (stP P D).out.length + (inD m B e).1.length ∧ D ++ ((inD m B e).1 ++ outD f P (m + 1) ((inD m B e).2 + 1) ((stP P D).out.length + (inD m B e).1.length)) = encDs P
theorem EncAt.first (P : List Nat) : EncAt P [] 128 0 := by
  refine ⟨⟨rfl, ?_, Nat.le_refl _⟩, P.length + 1, by omega, rfl⟩
  simp [stP, PSt.run, PSt.start]
theorem EncAt.round {P D : List Nat} {n e : Nat} (hP : ∀ p ∈ P, ptN p = true) (h : EncAt P D n e) (hd : (stP P D).out.length < P.length) :
    n ≤ leastG n P ∧ leastG n P ≤ 1114111 ∧ leastG n P ∈ P ∧ RndAt P D [] P (leastG n P) (e + (leastG n P - n) * ((stP P D).out.length + 1)) := by
  have ho : (stP P D).out = P.filter (fun x => decide (x < n)) := by have := h.syn.out; rwa [List.filter_nil, List.nil_append] at this
  obtain ⟨hm, hnm, hfl⟩ := least_facts hP (by rw [← ho]; exact hd)
  obtain ⟨f, hf, hr⟩ := h.rest
  refine ⟨hnm, ptN_le (hP _ hm), hm, ?_⟩
  cases f with
  | zero => omega
  | succ f =>
    rw [outD, if_pos hd] at hr
    generalize leastG n P = m at *
    refine ⟨rfl, hP m hm, ?_, ?_⟩
    · refine ⟨by rw [hfl, ← ho]; rfl, ?_, by have := h.syn.le; omega⟩
      have := h.syn.cnt
      have hle := h.syn.le
      rw [show m - (stP P D).n = (m - n) + (n - (stP P D).n) by omega, Nat.add_mul]
      simp at this ⊢
      omega
    · refine ⟨f, ?_, hr⟩
      have i1 := inD_count m P (e + (m - n) * ((stP P D).out.length + 1))
      have : 0 < (P.filter (fun x => decide (x = m))).length := by
        rw [← List.countP_eq_length_filter, List.countP_pos_iff]
        exact ⟨m, hm, by simp⟩
      omega
theorem RndAt.skip {P D A B : List Nat} {p m e : Nat} (h : RndAt P D A (p :: B) m e) (hp : p < m) : RndAt P D (A ++ [p]) B m (e + 1) := by
  obtain ⟨f, hf, hr⟩ := h.rest
  have hx : inD m (p :: B) e = inD m B (e + 1) := by rw [inD, if_pos hp]
  rw [hx] at hf hr
  exact ⟨by rw [← h.all]; simp, h.mem, h.syn.less hp, f, hf, hr⟩
theorem RndAt.pass {P D A B : List Nat} {p m e : Nat} (h : RndAt P D A (p :: B) m e) (h1 : ¬ p < m) (h2 : p ≠ m) : RndAt P D (A ++ [p]) B m e := by
  obtain ⟨f, hf, hr⟩ := h.rest
  have hx : inD m (p :: B) e = inD m B e := by rw [inD, if_neg h1, if_neg h2]
  rw [hx] at hf hr
  exact ⟨by rw [← h.all]; simp, h.mem, h.syn.more h1 h2, f, hf, hr⟩
theorem RndAt.emit {P D A B : List Nat} {m e : Nat} (h : RndAt P D A (m :: B) m e) : RndAt P (D ++ [e]) (A ++ [m]) B m 0 := by
  obtain ⟨f, hf, hr⟩ := h.rest
  have hx : inD m (m :: B) e = (e :: (inD m B 0).1, (inD m B 0).2) := by rw [inD, if_neg (by omega), if_pos rfl]
  rw [hx] at hf hr
  refine ⟨by rw [← h.all]; simp, h.mem, ?_, f, ?_, ?_⟩
  · rw [stP_snoc]; exact h.syn.emit.2.2
  · rw [stP_snoc, PSt.step_len]
    simp only [List.length_cons] at hf
    omega
  · rw [stP_snoc, PSt.step_len]
    simp only [List.length_cons, List.cons_append] at hr
    rw [List.append_assoc, List.cons_append, List.nil_append, show (stP P D).out.length + 1 + (inD m B 0).1.length = (stP P D).out.length + ((inD m B 0).1.length + 1) by omega]
    exact hr
theorem RndAt.done {P D A : List Nat} {m e : Nat} (h : RndAt P D A [] m e) : EncAt P D (m + 1) (e + 1) := by
  obtain ⟨f, hf, hr⟩ := h.rest
  have hA : A = P := by rw [← h.all, List.append_nil]
  subst hA
  have ho : (stP A D).out = A.filter (fun x => decide (x ≤ m)) := by have := h.syn.out; rwa [List.filter_nil, List.append_nil] at this
  refine ⟨⟨by rw [filter_lt_succ, ho]; rfl, ?_, by have := h.syn.le; omega⟩, f, ?_, ?_⟩
  · have := h.syn.cnt
    rw [← ho] at this
    have hle := h.syn.le
    rw [show m + 1 - (stP A D).n = (m - (stP A D).n) + 1 by omega, Nat.add_mul]
    simp
    omega
  · simpa [inD] using hf
  · simpa [inD] using hr
theorem EncAt.fin {P D : List Nat} {n e : Nat} (h : EncAt P D n e) (hd : ¬ (stP P D).out.length < P.length) : encDs P = D := by
  obtain ⟨f, _, hr⟩ := h.rest
  cases f with
  | zero => rw [← hr, outD, List.append_nil]
  | succ f => rw [← hr, outD, if_neg hd, List.append_nil]
theorem Syn.small {A B : List Nat} {n e : Nat} {s : PSt} (h : Syn A B n e s) (hn : n ≤ 1114112) (hl : (A ++ B).length ≤ 256) : e ≤ 17179869184 := by
  have a1 := List.length_filter_le (fun x => decide (x ≤ n)) A
  have a2 := List.length_filter_le (fun x => decide (x < n)) B
  have ho : s.out.length ≤ 256 := by
    rw [h.out, List.length_append]
    rw [List.length_append] at hl
    omega
  rw [List.length_append] at hl
  have hm : (n - s.n) * (s.out.length + 1) ≤ 1114112 * 257 := Nat.mul_le_mul (by omega) (by omega)
  have := h.cnt
  omega
theorem EncAt.small {P D : List Nat} {n e : Nat} (h : EncAt P D n e) (hn : n ≤ 1114112) (hl : P.length ≤ 256) : e ≤ 17179869184 := h.syn.small hn (by simpa using hl)
theorem RndAt.small {P D A B : List Nat} {m e : Nat} (h : RndAt P D A B m e) (hl : P.length ≤ 256) : e ≤ 17179869184 := h.syn.small (by have := ptN_le h.mem; omega) (by rw [h.all]; exact hl)
/-- The bytes behind the numbers D. -/
def outB (P D : List Nat) : List UInt8 := (basicN P).map UInt8.ofNat ++ ((if basicN P = [] then [] else [45]) ++ digsOf D 72 (basicN P).length true)
def biasB (P D : List Nat) : Nat := biasOf D 72 (basicN P).length true
theorem outB_snoc (P D : List Nat) (e : Nat) : outB P (D ++ [e]) = outB P D ++ (genV e 0 (biasB P D)).map digB := by
  unfold outB biasB
  rw [digsOf_snoc]
  simp only [List.append_assoc]
theorem biasB_snoc (P D : List Nat) (e : Nat) : biasB P (D ++ [e]) = adp e ((stP P D).out.length + 1) D.isEmpty := by
  unfold biasB
  rw [biasOf_snoc, stP_len, Bool.true_and]
theorem outB_len {P D R : List Nat} (hP : ∀ p ∈ P, ptN p = true) (hl : P.length ≤ 256) (h : D ++ R = encDs P) : (outB P D).length ≤ 3400 := by
  have hs := ok_small _ _ (encDs_run hP hl).2
  have h1 := digsOf_len 11 D 72 (basicN P).length true (fun d hd => hs d (by rw [← h]; simp [hd]))
  have h2 := encDs_len hP hl
  rw [← h, List.length_append] at h2
  unfold outB
  rw [List.length_append, List.length_append, List.length_map]
  split
  · simp; omega
  · simp; omega
theorem EncAt.len {P D : List Nat} {n e : Nat} (h : EncAt P D n e) (hP : ∀ p ∈ P, ptN p = true) (hl : P.length ≤ 256) : (outB P D).length ≤ 3400 := by
  obtain ⟨f, _, hr⟩ := h.rest
  exact outB_len hP hl hr
theorem RndAt.len {P D A B : List Nat} {m e : Nat} (h : RndAt P D A B m e) (hP : ∀ p ∈ P, ptN p = true) (hl : P.length ≤ 256) : (outB P D).length ≤ 3400 := by
  obtain ⟨f, _, hr⟩ := h.rest
  exact outB_len hP hl hr
theorem bias_small : ∀ (D : List Nat) (bias done : Nat) (first : Bool), bias ≤ 1000 → (∀ d ∈ D, d < 10 ^ 11) → biasOf D bias done first ≤ 1000
  | [], bias, _, _, h, _ => h
  | d :: r, bias, done, first, _, h => by
    rw [biasOf]
    have e : (10 : Nat) ^ 11 = 100000000000 := by decide
    exact bias_small r _ _ _ (adp_le d (done + 1) first (by have := h d (by simp); omega)) (fun x hx => h x (by simp [hx]))
theorem biasB_le {P D R : List Nat} (hP : ∀ p ∈ P, ptN p = true) (hl : P.length ≤ 256) (h : D ++ R = encDs P) : biasB P D ≤ 1000 := by
  have hs := ok_small _ _ (encDs_run hP hl).2
  exact bias_small D 72 _ true (by omega) (fun d hd => hs d (by rw [← h]; simp [hd]))
theorem RndAt.bias {P D A B : List Nat} {m e : Nat} (h : RndAt P D A B m e) (hP : ∀ p ∈ P, ptN p = true) (hl : P.length ≤ 256) : biasB P D ≤ 1000 := by
  obtain ⟨f, _, hr⟩ := h.rest
  exact biasB_le hP hl hr
theorem RndAt.outlen {P D A B : List Nat} {m e : Nat} (h : RndAt P D A B m e) : (stP P D).out.length ≤ P.length := by
  have a1 := List.length_filter_le (fun x => decide (x ≤ m)) A
  have a2 := List.length_filter_le (fun x => decide (x < m)) B
  rw [h.syn.out, List.length_append, ← h.all, List.length_append]
  omega
end

section
open Go.RowKit
theorem ptZ_nat (n : Nat) : ptZ (n : Int) = ptN n := by
  unfold ptZ
  rw [decide_eq_true (by omega)]
  rfl
end

section
open Go.RowKit
/-- A number in a cell. -/
abbrev iv (n : Nat) : Value := .int .i64 (n : Int)
theorem cell_iv {w wr : World} {B b off len : Nat} {P : List Nat} (h : Has w B (some ⟨b, off, none⟩) len (P.map iv)) (hb : Below w.heap.size w wr) (hB : B ≤ w.heap.size) (k : Nat) (hk : k < len) (hk2 : k < P.length) : wr.cell? ⟨b, off + k, none⟩ = some (.int .i64 (P[k] : Int)) := by
  obtain ⟨b', off', e, hlt, hc⟩ := h.at_ hk
  injection e with e
  injection e with e1 e2 _
  subst e1 e2
  rw [hb.cell (p := ⟨b, off + k, none⟩) (Nat.lt_of_lt_of_le hlt hB), hc, List.getElem_map]
theorem basicN_take (P : List Nat) (k : Nat) (hk : k < P.length) : basicN (P.take (k + 1)) = basicN (P.take k) ++ (if P[k] < 128 then [P[k]] else []) := by
  rw [List.take_succ_eq_append_getElem hk]
  unfold basicN
  rw [List.filter_append]
  congr 1
  split
  · rename_i h; simp [h]
  · rename_i h; simp [h]
theorem basicN_len (P : List Nat) : (basicN P).length ≤ P.length := List.length_filter_le _ _
theorem bv_ofNat {p : Nat} (h : p < 128) : bv (UInt8.ofNat p) = .int .u8 (p : Int) := by rw [bv_eq, ofNat_toNat h]
theorem outB_nil (P : List Nat) : outB P [] = (basicN P).map UInt8.ofNat ++ (if basicN P = [] then [] else [45]) := by unfold outB; rw [digsOf, List.append_nil]
end

section
open Go.RowKit
/-- A number in a cell. -/
abbrev zv (z : Int) : Value := .int .i64 z
theorem iv_zv (P : List Nat) : P.map iv = (P.map (fun n : Nat => (n : Int))).map zv := by rw [List.map_map]; rfl
theorem cell_zv {w wr : World} {B b off len : Nat} {Z : List Int} (h : Has w B (some ⟨b, off, none⟩) len (Z.map zv)) (hb : Below w.heap.size w wr) (hB : B ≤ w.heap.size) (k : Nat) (hk : k < len) (hk2 : k < Z.length) : wr.cell? ⟨b, off + k, none⟩ = some (.int .i64 Z[k]) := by
  obtain ⟨b', off', e, hlt, hc⟩ := h.at_ hk
  injection e with e
  injection e with e1 e2 _
  subst e1 e2
  rw [hb.cell (p := ⟨b, off + k, none⟩) (Nat.lt_of_lt_of_le hlt hB), hc, List.getElem_map]
end

section
open Go.RowKit
end

section
open Go.RowKit
end

section
open Go.RowKit
end

section
open Go.RowKit
/-- What is said of the first k code points. -/
def othK (p : List Nat) (k : Nat) : Bool := (p.take k).any (fun x => decide (128 ≤ x))
def bigK (p : List Nat) (k : Nat) : Bool := (p.take k).any bigP
theorem all_big (p : List Nat) : p.all (fun x => !bigP x) = !(p.any bigP) := by
  induction p with
  | nil => rfl
  | cons x p ih => rw [List.all_cons, List.any_cons, ih, Bool.not_or]
theorem prop_ok {r : List UInt8} {p : List Nat} (h : decL r = .ok p) : propL r = (othK p p.length && !(bigK p p.length) && decide (encB p = r)) := by
  unfold propL othK bigK
  rw [h, List.take_length, ← all_big]
theorem prop_no {r : List UInt8} {c : Nat} (h : decL r = .error c) : propL r = false := by unfold propL; rw [h]
theorem big_of (x : Nat) : bigP x = (decide (65 ≤ x) && decide (x ≤ 90)) := rfl
/-- The four kinds of a code point. -/
theorem kind_of (x : Nat) : (x < 65 ∧ bigP x = false) ∨ (65 ≤ x ∧ x ≤ 90 ∧ bigP x = true) ∨ (90 < x ∧ x < 128 ∧ bigP x = false) ∨ (128 ≤ x ∧ bigP x = false) := by
  rw [big_of]
  by_cases h1 : 65 ≤ x
  · by_cases h2 : x ≤ 90
    · exact .inr (.inl ⟨h1, h2, by rw [decide_eq_true h1, decide_eq_true h2]; rfl⟩)
    · have e : (decide (65 ≤ x) && decide (x ≤ 90)) = false := by rw [decide_eq_false h2, Bool.and_false]
      by_cases h3 : x < 128
      · exact .inr (.inr (.inl ⟨by omega, h3, e⟩))
      · exact .inr (.inr (.inr ⟨by omega, e⟩))
  · exact .inl ⟨by omega, by rw [decide_eq_false h1]; rfl⟩
end

section
open Go.RowKit
def okI (y : Int) : Bool := (decide (97 ≤ y) && decide (y ≤ 122)) || (decide (48 ≤ y) && decide (y ≤ 57)) || y == 45 || y == 95
theorem okI_nat (n : Nat) : okI (n : Int) = okN n := by
  have e : okI (n : Int) = true ↔ okN n = true := by
    rw [okN_yes]
    unfold okI
    simp only [Bool.or_eq_true, Bool.and_eq_true, decide_eq_true_eq, beq_iff_eq]
    omega
  cases h : okN n with
  | true => exact e.2 h
  | false =>
    cases h2 : okI (n : Int) with
    | true => rw [e.1 h2] at h; cases h
    | false => rfl
set_option maxHeartbeats 400000 in
theorem isLb_int (b : Int) (w : World) : Calls Tryz.prog 216 #[.int .u8 b] w fun e w' => e = .returned (.bool (okI b)) ∧ w = w' := by
  go_enter Tryz.func216, Tryz.ntmps216
  go_wp2
  all_goals
    go_ret
    exact ⟨ret_bool (by first | (simp [okI, *]; done) | (exfalso; simp_all; done) | (simp [okI, *]; omega) | (rw [Bool.eq_iff_iff]; simp [okI, *]; done) | (rw [Bool.eq_iff_iff]; simp [okI, *]; omega)), rfl⟩
theorem isLb_any (c : UInt8) (w : World) : Calls Tryz.prog 216 #[.int .u8 (c.toNat : Int)] w fun e w' => e = .returned (.bool (okN c.toNat)) ∧ w = w' := by
  rw [← okI_nat]
  exact isLb_int _ w
/-- What a label's bytes and ends ask. -/
def plainL (l : List UInt8) : Bool := endsL l && l.all (fun b => okN b.toNat)
theorem lab_plain (l : List UInt8) : labL l = (plainL l && (decide (l.take 4 ≠ xnL) || propL (l.drop 4))) := rfl
theorem plain_zero {s : ByteArray} (h : s.size = 0) : plainL (ls s) = false := by
  have : ls s = [] := List.eq_nil_of_length_eq_zero (by rw [ls_length]; exact h)
  rw [this]
  rfl
theorem plain_long {s : ByteArray} (h : 63 < s.size) : plainL (ls s) = false := by
  unfold plainL endsL
  rw [ls_length, decide_eq_false (p := s.size ≤ 63) (by omega)]
  simp
theorem plain_ends {s : ByteArray} {y0 y1 : Nat} (h : 0 < s.size) (h0 : y0 = (s[0]'h).toNat) (h1 : y1 = (s[s.size - 1]'(by omega)).toNat) :
    ((y0 = 45 ∨ y1 = 45) → plainL (ls s) = false) ∧ ((y0 ≠ 45 ∧ y1 ≠ 45 ∧ s.size ≤ 63) → plainL (ls s) = okK (ls s) s.size) := by
  have g0 : (ls s).head? = some (s[0]'h) := by rw [List.head?_eq_getElem?, ls_get s 0 h]
  have g1 : (ls s).getLast? = some (s[s.size - 1]'(by omega)) := by rw [List.getLast?_eq_getElem?, ls_length, ls_get s _ (by omega)]
  have hne : ls s ≠ [] := by
    intro e
    have := ls_length s
    rw [e] at this
    simp at this
    omega
  have e : endsL (ls s) = (decide (s.size ≤ 63) && decide (y0 ≠ 45) && decide (y1 ≠ 45)) := by
    unfold endsL
    rw [g0, g1, ls_length, decide_eq_true hne, Bool.true_and]
    congr 1
    · congr 1
      rw [decide_eq_decide]
      rw [h0, ne_eq, ne_eq, Option.some.injEq, u8_45]
    · rw [decide_eq_decide]
      rw [h1, ne_eq, ne_eq, Option.some.injEq, u8_45]
  refine ⟨?_, ?_⟩
  · intro hh
    unfold plainL
    rw [e]
    rcases hh with hh | hh
    · simp [hh]
    · simp [hh]
  · rintro ⟨a, b, c⟩
    unfold plainL okK
    rw [e, decide_eq_true a, decide_eq_true b, decide_eq_true c, take_ls_all]
    simp
theorem okK_bad {l : List UInt8} (n k : Nat) (h : k < l.length) (hn : k < n) (hb : okN (l[k]).toNat = false) : okK l n = false := by
  unfold okK
  rw [List.all_eq_false]
  refine ⟨l[k], ?_, by rw [hb]; simp⟩
  rw [List.mem_take_iff_getElem]
  exact ⟨k, by omega, rfl⟩
set_option maxRecDepth 20000 in
set_option maxHeartbeats 2000000 in
theorem plain_any (s : ByteArray) (w : World) :
    Calls Tryz.prog 198 #[.string s] w fun e w' => e = .returned (.bool (plainL (ls s))) ∧ w = w' := by
  by_cases h0 : s.size = 0
  · have hlab := Lib.hid (plain_zero h0)
    have he : s.toList.isEmpty = true := by rw [toList_ls]; exact List.isEmpty_iff.2 (List.eq_nil_of_length_eq_zero (by rw [ls_length]; exact h0))
    go_enter Tryz.func198, Tryz.ntmps198
    go_wp2
    go_ret
    exact ⟨ret_bool hlab.out.symm, rfl⟩
  · have he : s.toList.isEmpty = false := by rw [toList_ls]; exact ne_empty h0
    by_cases h1 : 63 < s.size
    · have hlab := Lib.hid (plain_long h1)
      have hd : decide ((63 : Int) < (s.size : Int)) = true := decide_eq_true (by omega)
      go_enter Tryz.func198, Tryz.ntmps198
      go_wp2
      go_ret
      exact ⟨ret_bool hlab.out.symm, rfl⟩
    · have hd : decide ((63 : Int) < (s.size : Int)) = false := decide_eq_false (by omega)
      have hz0 : (0 : Int) < (s.size : Int) := by omega
      have hf0 : 0 < s.size := by omega
      obtain ⟨y0, hy0⟩ : ∃ y0 : Nat, y0 = (s[0]'hf0).toNat := ⟨_, rfl⟩
      obtain ⟨y1, hy1⟩ : ∃ y1 : Nat, y1 = (s[s.size - 1]'(by omega)).toNat := ⟨_, rfl⟩
      have hends := Lib.hid (plain_ends hf0 hy0 hy1)
      have hsub : (s.size : Int) - 1 = ((s.size - 1 : Nat) : Int) := by omega
      by_cases h2 : y0 = 45
      · have hlab := Lib.hid (hends.out.1 (.inl h2))
        have e0 : (((s[0]'hf0).toNat : Int) == 45) = true := by rw [← hy0, h2]; rfl
        clear hy0 hy1
        go_enter Tryz.func198, Tryz.ntmps198
        go_wp2
        go_ret
        exact ⟨ret_bool hlab.out.symm, rfl⟩
      · have e0 : (((s[0]'hf0).toNat : Int) == 45) = false := by rw [← hy0]; simp; omega
        by_cases h3 : y1 = 45
        · have hlab := Lib.hid (hends.out.1 (.inr h3))
          have e1 : (((s[s.size - 1]'(by omega)).toNat : Int) == 45) = true := by rw [← hy1, h3]; rfl
          clear hy0 hy1
          go_enter Tryz.func198, Tryz.ntmps198
          go_wp2
          go_ret
          exact ⟨ret_bool hlab.out.symm, rfl⟩
        · have hlab := Lib.hid (hends.out.2 ⟨h2, h3, by omega⟩)
          have e1 : (((s[s.size - 1]'(by omega)).toNat : Int) == 45) = false := by rw [← hy1]; simp; omega
          clear hy0 hy1 hends
          rw [hlab.out]
          have HS : Hid (s.size ≤ 63) := by show _ ≤ _; omega
          obtain ⟨R, hR⟩ : ∃ R, R = okK (ls s) s.size := ⟨_, rfl⟩
          have HR := Lib.hid hR
          rw [← hR]
          clear hR hlab
          go_enter Tryz.func198, Tryz.ntmps198
          go_wp2
          clear e0 e1 h2 h3 hsub he
          go_loop [26] (fun i => ∃ k : Nat, k ≤ s.size ∧ i = .int .i64 k ∧ Hid (okK (ls s) k = true)) (fun i => s.size - (intOf i).toNat)
          case atStart => exact ⟨0, Nat.zero_le _, rfl, rfl⟩
          case round =>
            obtain ⟨k, hk, rfl, HK⟩ := hrel
            have hs63 : s.size ≤ 63 := HS.out
            by_cases hlt : k < s.size
            · have hkl : k < (ls s).length := by rw [ls_length]; exact hlt
              have HG := Lib.hid (okK_succ (ls s) k hkl)
              have HB : Hid (okN (ls s)[k].toNat = false → R = false) := fun hb => by rw [HR.out]; exact okK_bad s.size k hkl hlt hb
              rw [ls_getE s k hlt hkl] at HG HB
              have hkd : decide ((k : Int) < (s.size : Int)) = true := decide_eq_true (by omega)
              have cB := isLb_any s[k]
              cases hq : okN s[k].toNat with
              | true =>
                have HK2 : Hid (okK (ls s) (k + 1) = true) := by show _ = _; rw [HG.out, HK.out, hq]; rfl
                rw [hq] at cB
                clear hq
                go_wp2_with (go_at_call 216; refine (cB _).mono ?_; rintro e w' ⟨rfl, rfl⟩)
                go_round
                case rel => exact ⟨k + 1, by omega, by go_num, HK2⟩
                case measure => simp [intOf]; omega
              | false =>
                have HE := Lib.hid (HB.out hq)
                rw [hq] at cB
                clear hq
                go_wp2_with (go_at_call 216; refine (cB _).mono ?_; rintro e w' ⟨rfl, rfl⟩)
                go_ret
                exact ⟨ret_bool HE.out.symm, rfl⟩
            · obtain rfl : k = s.size := by omega
              have hkd : decide ((s.size : Int) < (s.size : Int)) = false := by simp
              have HR2 : Hid (R = true) := by show _ = _; rw [HR.out, HK.out]
              go_wp2
              go_ret
              exact ⟨ret_bool HR2.out.symm, rfl⟩
theorem nb_any (x : Nat) (w : World) : Calls Tryz.prog 219 #[.int .i64 (x : Int)] w fun e w' => e = .returned (.bool (decide (128 ≤ x))) ∧ w = w' := by
  have e : decide ((128 : Int) ≤ (x : Int)) = decide (128 ≤ x) := by rw [decide_eq_decide]; omega
  go_enter Tryz.func219, Tryz.ntmps219
  go_wp2
  go_ret
  exact ⟨ret_bool (by first | exact e | simp), rfl⟩
theorem iu_any (x : Nat) (w : World) : Calls Tryz.prog 220 #[.int .i64 (x : Int)] w fun e w' => e = .returned (.bool (bigP x)) ∧ w = w' := by
  rcases kind_of x with ⟨n1, n2⟩ | ⟨n1, n2, n3⟩ | ⟨n1, n2, n3⟩ | ⟨n1, n3⟩
  · have t : decide ((65 : Int) ≤ (x : Int)) = false := decide_eq_false (by omega)
    have tN : decide (65 ≤ x) = false := decide_eq_false (by omega)
    rw [n2]
    clear n1 n2
    go_enter Tryz.func220, Tryz.ntmps220
    go_wp2
    go_ret
    exact ⟨rfl, rfl⟩
  all_goals
    have t : decide ((65 : Int) ≤ (x : Int)) = true := decide_eq_true (by omega)
    have tN : decide (65 ≤ x) = true := decide_eq_true (by omega)
    rw [n3]
  · have t2 : decide ((x : Int) ≤ 90) = true := decide_eq_true (by omega)
    have t2N : decide (x ≤ 90) = true := decide_eq_true (by omega)
    clear n1 n2 n3
    go_enter Tryz.func220, Tryz.ntmps220
    go_wp2
    go_ret
    exact ⟨rfl, rfl⟩
  · have t2 : decide ((x : Int) ≤ 90) = false := decide_eq_false (by omega)
    have t2N : decide (x ≤ 90) = false := decide_eq_false (by omega)
    clear n1 n2 n3
    go_enter Tryz.func220, Tryz.ntmps220
    go_wp2
    go_ret
    exact ⟨rfl, rfl⟩
  · have t2 : decide ((x : Int) ≤ 90) = false := decide_eq_false (by omega)
    have t2N : decide (x ≤ 90) = false := decide_eq_false (by omega)
    clear n1 n3
    go_enter Tryz.func220, Tryz.ntmps220
    go_wp2
    go_ret
    exact ⟨rfl, rfl⟩
end

section
open Go.RowKit
theorem any_drop (P : List Nat) (q : Nat → Bool) (k : Nat) (h : k < P.length) : (P.drop k).any q = (q P[k] || (P.drop (k + 1)).any q) := by
  rw [List.drop_eq_getElem_cons h, List.any_cons]
set_option maxRecDepth 20000 in
set_option maxHeartbeats 1600000 in
theorem ifN_any (P : List Nat) (hP : ∀ x ∈ P, x ≤ 1114111) (A : Option Addr) (cap B : Nat) (w : World) (hA : Has w B A P.length (P.map nvI)) (hB : B ≤ w.heap.size) (hl : P.length ≤ 1000000) :
    Calls Tryz.prog 230 #[.slice A P.length cap, .func (.func 219) #[] #[]] w fun e w' => ∃ r : Int, e = .returned (.int .i64 r) ∧ decide (0 ≤ r) = P.any (fun x => decide (128 ≤ x)) ∧ Below w.heap.size w w' := by
  have HA := Lib.hid hA
  have HP := Lib.hid hP
  have HL := Lib.hid hl
  clear hA hP hl
  go_enter Tryz.func230, Tryz.ntmps230
  go_wp2
  go_loopw [8] (fun i wr => ∃ k : Nat, k ≤ P.length ∧ i = .int .i64 k ∧ Hid (Below w.heap.size w wr ∧ P.any (fun x => decide (128 ≤ x)) = (P.drop k).any (fun x => decide (128 ≤ x)))) (fun i _ => P.length - (RowKit.intOf i).toNat)
  case atStart => exact ⟨0, Nat.zero_le _, rfl, Below.refl _ _, by rw [List.drop_zero]⟩
  case round =>
    obtain ⟨k, hk, rfl, HR⟩ := hrel
    have hkb : (k : Int) ≤ 1000000 := by have := HL.out; omega
    by_cases hlt : k < P.length
    · obtain ⟨b, off, rfl, hbw, hc⟩ := HA.out.2 (by omega)
      have h1 := hc k (by rw [List.length_map]; exact hlt)
      rw [List.getElem_map] at h1
      have d1 := (HR.out.1.cell (p := ⟨b, off + k, none⟩) (Nat.lt_of_lt_of_le hbw hB)).trans h1
      have hstep : Hid (P.any (fun x => decide (128 ≤ x)) = ((fun x => decide (128 ≤ x)) P[k] || (P.drop (k + 1)).any (fun x => decide (128 ≤ x)))) := by
        show _ = _
        rw [HR.out.2, any_drop P (fun x => decide (128 ≤ x)) k hlt]
      have hx := HP.out _ (List.getElem_mem hlt)
      obtain ⟨x, hxx⟩ : ∃ x, x = P[k] := ⟨_, rfl⟩
      rw [← hxx] at d1 hstep hx
      clear hc h1 hxx
      have cF := nb_any x
      cases hb : (fun x => decide (128 ≤ x)) x with
      | true =>
        have HB := Lib.hid hb
        rw [show decide (128 ≤ x) = (fun x => decide (128 ≤ x)) x from rfl, hb] at cF
        clear hb
        go_wp2_with (go_at_call 219; refine (cF wr).mono ?_; rintro e w1 ⟨rfl, rfl⟩)
        go_ret
        refine ⟨k, rfl, ?_, HR.out.1⟩
        rw [hstep.out, HB.out, Bool.true_or, decide_eq_true_iff]
        omega
      | false =>
        have HB := Lib.hid hb
        rw [show decide (128 ≤ x) = (fun x => decide (128 ≤ x)) x from rfl, hb] at cF
        clear hb
        go_wp2_with (go_at_call 219; refine (cF wr).mono ?_; rintro e w1 ⟨rfl, rfl⟩)
        go_roundw
        case rel => exact ⟨k + 1, by omega, by go_num, HR.out.1, by rw [hstep.out, HB.out, Bool.false_or]⟩
        case measure => simp [RowKit.intOf]; omega
    · have hkm : k = P.length := by omega
      have hz : Hid (P.any (fun x => decide (128 ≤ x)) = false) := by
        show _ = _
        rw [HR.out.2, hkm, List.drop_length]
        rfl
      have HBl := Lib.hid HR.out.1
      clear hkm
      go_wp2
      go_ret
      exact ⟨-1, rfl, by rw [hz.out]; decide, HBl.out⟩
theorem cfN_any (P : List Nat) (hP : ∀ x ∈ P, x ≤ 1114111) (A : Option Addr) (cap B : Nat) (w : World) (hA : Has w B A P.length (P.map nvI)) (hB : B ≤ w.heap.size) (hl : P.length ≤ 1000000) :
    Calls Tryz.prog 218 #[.slice A P.length cap, .func (.func 219) #[] #[]] w fun e w' => e = .returned (.bool (P.any (fun x => decide (128 ≤ x)))) ∧ Below w.heap.size w w' := by
  have hc := ifN_any P hP A cap B w hA hB hl
  obtain ⟨R, hR⟩ : ∃ R, R = P.any (fun x => decide (128 ≤ x)) := ⟨_, rfl⟩
  rw [← hR] at hc ⊢
  clear hP hA hl hR
  go_enter Tryz.func218, Tryz.ntmps218
  go_wp2_with (go_at_call 230; refine hc.mono ?_; rintro e w1 ⟨r, rfl, hr, hb1⟩; have HR := Lib.hid hr; clear hr)
  go_ret
  exact ⟨ret_bool (by rw [← HR.out]), hb1⟩
set_option maxRecDepth 20000 in
set_option maxHeartbeats 1600000 in
theorem ifU_any (P : List Nat) (hP : ∀ x ∈ P, x ≤ 1114111) (A : Option Addr) (cap B : Nat) (w : World) (hA : Has w B A P.length (P.map nvI)) (hB : B ≤ w.heap.size) (hl : P.length ≤ 1000000) :
    Calls Tryz.prog 230 #[.slice A P.length cap, .func (.func 220) #[] #[]] w fun e w' => ∃ r : Int, e = .returned (.int .i64 r) ∧ decide (0 ≤ r) = P.any bigP ∧ Below w.heap.size w w' := by
  have HA := Lib.hid hA
  have HP := Lib.hid hP
  have HL := Lib.hid hl
  clear hA hP hl
  go_enter Tryz.func230, Tryz.ntmps230
  go_wp2
  go_loopw [8] (fun i wr => ∃ k : Nat, k ≤ P.length ∧ i = .int .i64 k ∧ Hid (Below w.heap.size w wr ∧ P.any bigP = (P.drop k).any bigP)) (fun i _ => P.length - (RowKit.intOf i).toNat)
  case atStart => exact ⟨0, Nat.zero_le _, rfl, Below.refl _ _, by rw [List.drop_zero]⟩
  case round =>
    obtain ⟨k, hk, rfl, HR⟩ := hrel
    have hkb : (k : Int) ≤ 1000000 := by have := HL.out; omega
    by_cases hlt : k < P.length
    · obtain ⟨b, off, rfl, hbw, hc⟩ := HA.out.2 (by omega)
      have h1 := hc k (by rw [List.length_map]; exact hlt)
      rw [List.getElem_map] at h1
      have d1 := (HR.out.1.cell (p := ⟨b, off + k, none⟩) (Nat.lt_of_lt_of_le hbw hB)).trans h1
      have hstep : Hid (P.any bigP = (bigP P[k] || (P.drop (k + 1)).any bigP)) := by
        show _ = _
        rw [HR.out.2, any_drop P bigP k hlt]
      have hx := HP.out _ (List.getElem_mem hlt)
      obtain ⟨x, hxx⟩ : ∃ x, x = P[k] := ⟨_, rfl⟩
      rw [← hxx] at d1 hstep hx
      clear hc h1 hxx
      have cF := iu_any x
      cases hb : bigP x with
      | true =>
        have HB := Lib.hid hb
        rw [show bigP x = bigP x from rfl, hb] at cF
        clear hb
        go_wp2_with (go_at_call 220; refine (cF wr).mono ?_; rintro e w1 ⟨rfl, rfl⟩)
        go_ret
        refine ⟨k, rfl, ?_, HR.out.1⟩
        rw [hstep.out, HB.out, Bool.true_or, decide_eq_true_iff]
        omega
      | false =>
        have HB := Lib.hid hb
        rw [show bigP x = bigP x from rfl, hb] at cF
        clear hb
        go_wp2_with (go_at_call 220; refine (cF wr).mono ?_; rintro e w1 ⟨rfl, rfl⟩)
        go_roundw
        case rel => exact ⟨k + 1, by omega, by go_num, HR.out.1, by rw [hstep.out, HB.out, Bool.false_or]⟩
        case measure => simp [RowKit.intOf]; omega
    · have hkm : k = P.length := by omega
      have hz : Hid (P.any bigP = false) := by
        show _ = _
        rw [HR.out.2, hkm, List.drop_length]
        rfl
      have HBl := Lib.hid HR.out.1
      clear hkm
      go_wp2
      go_ret
      exact ⟨-1, rfl, by rw [hz.out]; decide, HBl.out⟩
theorem cfU_any (P : List Nat) (hP : ∀ x ∈ P, x ≤ 1114111) (A : Option Addr) (cap B : Nat) (w : World) (hA : Has w B A P.length (P.map nvI)) (hB : B ≤ w.heap.size) (hl : P.length ≤ 1000000) :
    Calls Tryz.prog 218 #[.slice A P.length cap, .func (.func 220) #[] #[]] w fun e w' => e = .returned (.bool (P.any bigP)) ∧ Below w.heap.size w w' := by
  have hc := ifU_any P hP A cap B w hA hB hl
  obtain ⟨R, hR⟩ : ∃ R, R = P.any bigP := ⟨_, rfl⟩
  rw [← hR] at hc ⊢
  clear hP hA hl hR
  go_enter Tryz.func218, Tryz.ntmps218
  go_wp2_with (go_at_call 230; refine hc.mono ?_; rintro e w1 ⟨r, rfl, hr, hb1⟩; have HR := Lib.hid hr; clear hr)
  go_ret
  exact ⟨ret_bool (by rw [← HR.out]), hb1⟩
end

section
open Go.RowKit
theorem txt_snoc (P : List Nat) (k : Nat) (hk : k < P.length) : txtL (P.take (k + 1)) = txtL (P.take k) ++ txt8 P[k] := by
  rw [List.take_succ_eq_append_getElem hk]
  unfold txtL
  rw [List.flatMap_append]
  simp
theorem txtL_le4 : ∀ (P : List Nat), (txtL P).length ≤ 4 * P.length
  | [] => Nat.le_refl _
  | q :: P => by
    have e : (txtL (q :: P)).length = (txt8 q).length + (txtL P).length := by
      show (txt8 q ++ txtL P).length = _
      rw [List.length_append]
    have := (txt8_len q).2.2.2
    have := txtL_le4 P
    rw [e, List.length_cons]
    omega
end

section
open Go.RowKit
set_option maxRecDepth 20000 in
set_option maxHeartbeats 2000000 in
theorem pof_any (s : ByteArray) (P : List Nat) (hp : ptsL (ls s) = some P) (w : World) (hs : s.size ≤ 1000000000) (hT : U8 w) :
    Calls Tryz.prog 181 #[.string s] w fun e w' => (∃ v, e = .returned v ∧ w'.ownsRow w.heap.size 3 1 v P.length (P.map nvI)) ∧ Below w.heap.size w w' := by
  obtain ⟨i3, hi3, hz0, hz1, hz2⟩ := info_parts infoInt
  have HPT := Lib.hid (txt_pts hp).1
  have hPl : P.length ≤ s.size := by
    have h1 := (txtL_len P).1
    rw [(txt_pts hp).2, ls_length] at h1
    exact h1
  have HPL := Lib.hid (Nat.le_trans hPl hs)
  have HT := Lib.hid hT
  have HP0 := Lib.hid hp
  clear hPl hs hT hp
  go_enter Tryz.func181, Tryz.ntmps181
  go_wp2
  go_loopg [0, 3] s.size (fun g sv v wr => ∃ (t : ByteArray) (Q acc : List Nat), g = t.size ∧ sv = .string t ∧ Hid (ptsL (ls t) = some Q) ∧ Hid (acc ++ Q = P) ∧ wr.ownsRow w.heap.size 3 1 v acc.length (acc.map nvI) ∧ Below w.heap.size w wr)
  case atStart => exact ⟨s, P, [], rfl, rfl, HP0, rfl, World.ownsRow_nil _ _ _ _, Below.refl _ _⟩
  case round =>
    obtain ⟨t, Q, acc, hg, rfl, HQ, HA, hown, hb⟩ := hrel
    have HG := Lib.hid hg
    clear hg
    have hal : acc.length ≤ 1000000000 := by
      have := HPL.out
      rw [← HA.out, List.length_append] at this
      omega
    by_cases h0 : t.size = 0
    · have he : t.toList.isEmpty = true := by rw [toList_ls]; exact List.isEmpty_iff.2 (List.eq_nil_of_length_eq_zero (by rw [ls_length]; exact h0))
      have HE : Hid (acc = P) := by
        have hn : ls t = [] := List.eq_nil_of_length_eq_zero (by rw [ls_length]; exact h0)
        have h1 := HQ.out
        rw [hn, ptsL_nil] at h1
        injection h1 with h1
        have h2 := HA.out
        rw [← h1, List.append_nil] at h2
        exact h2
      clear h0
      go_wp2
      go_ret
      rw [← HE.out]
      exact ⟨⟨_, rfl, hown⟩, hb⟩
    · have he : t.toList.isEmpty = false := by rw [toList_ls]; exact ne_empty h0
      obtain ⟨p, Q2, hQ2⟩ : ∃ p Q2, Q = p :: Q2 := by
        cases Q with
        | nil =>
          exfalso
          have h1 := (txt_pts HQ.out).2
          have := congrArg List.length h1
          rw [ls_length] at this
          exact h0 this.symm
        | cons p Q2 => exact ⟨p, Q2, rfl⟩
      have hq := HQ.out
      rw [hQ2] at hq
      obtain ⟨k, hk1, hk2, hk3, cD⟩ := dr_any hq
      have hpt : ptN p = true := HPT.out p (by rw [← HA.out, hQ2]; simp)
      have hple := ptN_le hpt
      have HX : Hid (ptsL (ls (t.extract k t.size)) = some Q2) := by
        show _ = _
        rw [ls_extract, List.take_of_length_le (by rw [List.length_drop, ls_length]; exact Nat.le_refl _)]
        exact hk3
      have HA2 : Hid ((acc ++ [p]) ++ Q2 = P) := by show _ = _; rw [← HA.out, hQ2]; simp
      have c1 := cD wr (u8_below HT.out hb)
      have hkz : (k : Int) ≤ (t.size : Int) := by omega
      have hk0 : (0 : Int) ≤ (k : Int) := by omega
      have hp0 : (0 : Int) ≤ (p : Int) := by omega
      have hp1 : (p : Int) ≤ 1114111 := by omega
      clear hq hQ2 hk3 cD hpt hple h0
      go_wp2_with fail
      refine c1.mono ?_
      rintro e w1 ⟨rfl, hb1⟩
      have hown1 := own_below hown hb1
      replace hb1 := hb.trans (hb1.mono hb.size)
      clear hown
      go_wp2_with (at_builtin; refine wpList_app_one _ rfl _ _ 105 rfl w.heap.size 3 i3 (.int .i64 0) 8 tyInts hi3 hz0 hz1 hz2 rfl _ (by exact rfl) _ _ _ (by exact rfl) hown1 (by exact rfl) (by unfold maxLen; omega) (by omega) hb1 (Nat.le_refl _) ?_; intro v' w' hown' hb' _)
      go_roundg (t.size - k)
      case rel =>
        refine ⟨_, Q2, acc ++ [p], ?_, rfl, HX, HA2, ?_, hb'⟩
        · rw [ByteArray.size_extract]; omega
        · rw [List.length_append, List.map_append]
          exact hown'
      case measure => have := HG.out; omega
set_option maxRecDepth 20000 in
set_option maxHeartbeats 2000000 in
theorem tof_any (P : List Nat) (hP : ∀ x ∈ P, ptN x = true) (A : Option Addr) (cap B : Nat) (w : World) (hA : Has w B A P.length (P.map nvI)) (hB : B ≤ w.heap.size) (hl : P.length ≤ 100000000) :
    Calls Tryz.prog 200 #[.slice A P.length cap] w fun e w' => e = .returned (.string (bs (txtL P))) ∧ Below w.heap.size w w' := by
  have HA := Lib.hid hA
  have HPT := Lib.hid hP
  have HL := Lib.hid hl
  clear hA hP hl
  go_enter Tryz.func200, Tryz.ntmps200
  go_wp2
  go_loopw [3, 8] (fun v i wr => ∃ k : Nat, k ≤ P.length ∧ i = .int .i64 k ∧ wr.ownsRow w.heap.size 5 1 v (txtL (P.take k)).length ((txtL (P.take k)).map bv) ∧ Below w.heap.size w wr) (fun _ i _ => P.length - (RowKit.intOf i).toNat)
  case atStart => exact ⟨0, Nat.zero_le _, rfl, World.ownsRow_nil _ _ _ _, Below.refl _ _⟩
  case round =>
    obtain ⟨k, hk, rfl, hown, hb⟩ := hrel
    have hkb : (k : Int) ≤ 100000000 := by have := HL.out; omega
    by_cases hlt : k < P.length
    · obtain ⟨b, off, rfl, hbw, hc⟩ := HA.out.2 (by omega)
      have h1 := hc k (by rw [List.length_map]; exact hlt)
      rw [List.getElem_map] at h1
      have d1 := (hb.cell (p := ⟨b, off + k, none⟩) (Nat.lt_of_lt_of_le hbw hB)).trans h1
      have hpt := HPT.out _ (List.getElem_mem hlt)
      have hsn := Lib.hid (txt_snoc P k hlt)
      have hkl : (txtL (P.take k)).length ≤ 400000000 := by
        have h2 := txtL_le4 (P.take k)
        have h3 := HL.out
        rw [List.length_take] at h2
        omega
      obtain ⟨x, hx⟩ : ∃ x, x = P[k] := ⟨_, rfl⟩
      rw [← hx] at d1 hpt hsn
      have hple := ptN_le hpt
      have hp0 : (0 : Int) ≤ (x : Int) := by omega
      have hp1 : (x : Int) ≤ 1114111 := by omega
      have hkd : decide ((k : Int) < (P.length : Int)) = true := decide_eq_true (by omega)
      have cA := fun v n l hv hn => ar_any (w0 := w) (w := wr) (B := w.heap.size) (v := v) (n := n) (l := l) hpt hv hn hb (Nat.le_refl _)
      have c1 := cA _ _ _ hown (by omega)
      have hlen : Hid ((txtL (P.take (k + 1))).length = (txtL (P.take k)).length + (txt8 x).length) := by show _ = _; rw [hsn.out, List.length_append]
      clear hc h1 hx cA hpt hple hkl
      go_wp2_with fail
      refine c1.mono ?_
      rintro e w1 ⟨v', rfl, hown', hb'⟩
      clear hown c1
      go_wp2
      go_roundw
      case rel =>
        refine ⟨k + 1, by omega, by go_num, ?_, hb'⟩
        rw [hlen.out, hsn.out]
        exact hown'
      case measure => simp [RowKit.intOf]; omega
    · obtain rfl : k = P.length := by omega
      have hkd : decide ((P.length : Int) < (P.length : Int)) = false := by simp
      rw [List.take_length] at hown
      have hconv := str_owned wr _ _ _ _ hown
      go_wp2
      go_ret
      exact ⟨rfl, hb⟩
end

section
open Go.RowKit
/-- What Points answers, in memory. -/
def PtsPost (l : List UInt8) (w : World) (e : Ending) (w' : World) : Prop :=
  (∃ v, e = .returned (.tuple #[v, .bool (ptsL l).isSome]) ∧ w'.ownsRow w.heap.size 3 1 v ((ptsL l).getD []).length (((ptsL l).getD []).map nvI)) ∧ Below w.heap.size w w'
theorem PtsPost.no {l : List UInt8} {w w' : World} (h : ptsL l = none) (hb : Below w.heap.size w w') : PtsPost l w (.returned (.tuple #[.slice none 0 0, .bool false])) w' := by
  refine ⟨⟨_, by rw [h]; rfl, ?_⟩, hb⟩
  rw [h]
  exact World.ownsRow_nil _ _ _ _
theorem PtsPost.yes {l : List UInt8} {P : List Nat} {w w' : World} {v : Value} (h : ptsL l = some P) (ho : w'.ownsRow w.heap.size 3 1 v P.length (P.map nvI)) (hb : Below w.heap.size w w') : PtsPost l w (.returned (.tuple #[v, .bool true])) w' := by
  refine ⟨⟨v, by rw [h]; rfl, ?_⟩, hb⟩
  rw [h]
  exact ho
end

section
open Go.RowKit
theorem toU_no {l : List UInt8} (h : labL l = false) : toU l = (14, []) := by unfold toU; rw [if_neg (by rw [h]; simp)]
theorem toU_xn {l : List UInt8} {p : List Nat} (h : labL l = true) (hx : l.take 4 = xnL) (hd : decL (l.drop 4) = .ok p) : toU l = (0, txtL p) := by
  unfold toU toUOut toUOut.puV'
  rw [if_pos h, if_pos hx, hd]
theorem toU_self {l : List UInt8} (h : labL l = true) (hx : ¬ l.take 4 = xnL) : toU l = (0, l) := by
  unfold toU toUOut
  rw [if_pos h, if_neg hx]
theorem toA_none {l : List UInt8} (h : ptsL l = none) : toA l = (4, []) := by unfold toA; rw [h]
theorem toA_many {l : List UInt8} {P : List Nat} (h : ptsL l = some P) (hl : 256 < P.length) : toA l = (3, []) := by
  unfold toA
  rw [h]
  exact if_pos hl
theorem toA_some {l : List UInt8} {P : List Nat} (h : ptsL l = some P) (hl : ¬ 256 < P.length) : toA l = if labL (toAOut l P) = true then (0, toAOut l P) else (14, []) := by
  unfold toA
  rw [h]
  exact if_neg hl
end

end Go.Proofs.YtdfacgncphmcoaaGreatDoor
