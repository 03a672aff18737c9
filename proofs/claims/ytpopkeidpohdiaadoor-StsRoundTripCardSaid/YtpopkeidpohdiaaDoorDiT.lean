/-
  How far a reader of a list of directives has come: positions, and the steps of its list. No program.
-/
import Derived.Test.YtpopkeidpohdiaaDoorDiR
namespace Go.Proofs.YtpopkeidpohdiaaDoor
open Go.RowKit

/-! ### positions -/
/-- What is left at a place. -/
def dl (s : ByteArray) (k : Nat) : List UInt8 := (ls s).drop k
theorem dl_end (s : ByteArray) (k : Nat) (h : s.size ≤ k) : dl s k = [] := List.drop_eq_nil_of_le (by rw [ls_length]; exact h)
theorem dl_cons (s : ByteArray) (k : Nat) (h : k < s.size) : dl s k = s[k] :: dl s (k + 1) := drop_ls_cons s k h
theorem dl_len (s : ByteArray) (k : Nat) : (dl s k).length = s.size - k := by rw [dl, List.length_drop, ls_length]
/-- Where the blanks at a place end. -/
def skN (s : ByteArray) (k : Nat) : Nat := k + ((dl s k).takeWhile blankU).length
theorem drop_takeWhile {α : Type} (p : α → Bool) : ∀ l : List α, l.drop (l.takeWhile p).length = l.dropWhile p
  | [] => rfl
  | a :: l => by
    rw [List.takeWhile_cons, List.dropWhile_cons]
    cases hp : p a with
    | true => simpa using drop_takeWhile p l
    | false => rfl
theorem dl_sk (s : ByteArray) (k : Nat) : dl s (skN s k) = skL (dl s k) := by
  rw [skN, skL, ← drop_takeWhile, dl, dl, List.drop_drop]
theorem skN_le (s : ByteArray) (k : Nat) (h : k ≤ s.size) : skN s k ≤ s.size := by
  have := takeWhile_le blankU (dl s k)
  rw [dl_len] at this
  unfold skN
  omega
theorem skN_ge (s : ByteArray) (k : Nat) : k ≤ skN s k := Nat.le_add_right _ _
theorem skN_stop (s : ByteArray) (k : Nat) (h : k < s.size) (hb : blankU s[k] = false) : skN s k = k := by
  rw [skN, dl_cons s k h, List.takeWhile_cons, hb]; rfl
theorem skN_end (s : ByteArray) (k : Nat) (h : s.size ≤ k) : skN s k = k := by
  rw [skN, dl_end s k h]; rfl
theorem skN_step (s : ByteArray) (k : Nat) (h : k < s.size) (hb : blankU s[k] = true) : skN s k = skN s (k + 1) := by
  rw [skN, dl_cons s k h, List.takeWhile_cons, hb, if_pos rfl, List.length_cons, skN]
  omega
theorem tkN_dl (s : ByteArray) (k : Nat) : tkN s k = ((dl s k).takeWhile tokU).length := rfl
theorem dl_tok (s : ByteArray) (k : Nat) : dl s (k + tkN s k) = (dl s k).dropWhile tokU := by
  rw [tkN_dl, ← drop_takeWhile, dl, dl, List.drop_drop]
theorem tok_ls (s : ByteArray) (k : Nat) : ls (s.extract k (k + tkN s k)) = (dl s k).takeWhile tokU := by
  rw [ls_extract, show k + tkN s k - k = tkN s k by omega, tkN_dl]
  exact takeWhile_take tokU _
theorem tok_bs (s : ByteArray) (k : Nat) : s.extract k (k + tkN s k) = bs ((dl s k).takeWhile tokU) := by rw [← tok_ls, bs_ls]
theorem tok_nil (s : ByteArray) (k : Nat) : tkN s k = 0 ↔ (dl s k).takeWhile tokU = [] := by
  rw [tkN_dl]; exact List.length_eq_zero_iff
theorem low_bs (l : List UInt8) : lowS (bs l) = bs (lowL l) := by unfold lowS; rw [ls_bs]

/-! ### a value -/
theorem valL_tok {q : List UInt8} (h : q.takeWhile tokU ≠ []) : valL q = some (q.takeWhile tokU, q.dropWhile tokU) := by
  unfold valL
  split
  · rename_i r
    exfalso
    apply h
    rw [List.takeWhile_cons, show tokU 34 = false from by decide +kernel]
    rfl
  · rw [if_neg h]
/-- A value that is no token, in the words of the reader of quoted strings. -/
theorem valL_quo (s : ByteArray) (k : Nat) (hk : k ≤ s.size) (h : tkN s k = 0) {v : List UInt8} {n : Nat} {r : Int} (hq : qpar s (k : Int) = (v, n, r)) :
    (r = 0 → valL (dl s k) = some (v, dl s n) ∧ k ≤ n ∧ n ≤ s.size) ∧ (r ≠ 0 → valL (dl s k) = none) := by
  have ht := (tok_nil s k).1 h
  by_cases hlt : k < s.size
  · by_cases hc : s[k] = 34
    · have e := dl_cons s k hlt
      rw [hc] at e
      have hv : valL (dl s k) = pr false (dl s (k + 1)) [] := by rw [e]; rfl
      have hp := pr_pq (dl s (k + 1)) false [] (k + 1)
      rw [qpar_some s k hlt hc] at hq
      rw [hv]
      cases hpr : pr false (dl s (k + 1)) [] with
      | none =>
        rw [hpr] at hp
        simp only at hp
        rw [show (ls s).drop (k + 1) = dl s (k + 1) from rfl] at hq
        rw [hq] at hp
        exact ⟨fun h0 => absurd h0 hp, fun _ => rfl⟩
      | some p =>
        obtain ⟨v2, r2⟩ := p
        rw [hpr] at hp
        simp only at hp
        obtain ⟨h1, h2, h3⟩ := hp
        rw [show (ls s).drop (k + 1) = dl s (k + 1) from rfl, h1] at hq
        injection hq with e1 e2
        injection e2 with e2 e3
        have hl := dl_len s (k + 1)
        refine ⟨fun _ => ⟨?_, by omega, by omega⟩, fun h0 => absurd e3.symm h0⟩
        have hr : r2 = dl s n := by
          rw [h3, ← e2]
          unfold dl
          rw [List.drop_drop]
        rw [← e1, hr]
    · have hv : valL (dl s k) = none := by
        have e := dl_cons s k hlt
        unfold valL
        split
        · rename_i r' e'
          rw [e] at e'
          injection e' with e1 _
          exact absurd e1 hc
        · rw [if_pos ht]
      rw [qpar_none s k hlt hc] at hq
      injection hq with _ e2
      injection e2 with _ e3
      exact ⟨fun h0 => absurd (e3.trans h0) (by decide), fun _ => hv⟩
  · have hv : valL (dl s k) = none := by
      rw [dl_end s k (by omega)]
      rfl
    rw [qpar_end s k (by omega)] at hq
    injection hq with _ e2
    injection e2 with _ e3
    exact ⟨fun h0 => absurd (e3.trans h0) (by decide), fun _ => hv⟩

/-! ### an element, with what follows it -/
/-- What stands behind an element. -/
def endR (d : Dv) (q : List UInt8) : Option (Dv × List UInt8) :=
  match skL q with
  | [] => some (d, [])
  | e :: t => if e = 59 then some (d, t) else none
def elemR (l : List UInt8) : Option (Dv × List UInt8) :=
  match elemL l with
  | none => none
  | some (d, q) => match skL q with
    | [] => some (d, [])
    | e :: t => if e = 59 then some (d, t) else none
theorem elemR_eq {l q : List UInt8} {d : Dv} (h : elemL l = some (d, q)) : elemR l = endR d q := by
  unfold elemR endR
  rw [h]
theorem elemR_none {l : List UInt8} (h : elemL l = none) : elemR l = none := by
  unfold elemR
  rw [h]
theorem endR_end (s : ByteArray) (d : Dv) (n m : Nat) (hm : skN s n = m) (h : m = s.size) : endR d (dl s n) = some (d, dl s m) := by
  unfold endR
  rw [← dl_sk, hm, dl_end s m (by omega)]
theorem endR_semi (s : ByteArray) (d : Dv) (n m : Nat) (hm : skN s n = m) (h : m < s.size) (hc : s[m] = 59) : endR d (dl s n) = some (d, dl s (m + 1)) := by
  unfold endR
  rw [← dl_sk, hm, dl_cons s m h]
  exact if_pos hc
theorem endR_no (s : ByteArray) (d : Dv) (n m : Nat) (hm : skN s n = m) (h : m < s.size) (hc : s[m] ≠ 59) : endR d (dl s n) = none := by
  unfold endR
  rw [← dl_sk, hm, dl_cons s m h]
  exact if_neg hc
theorem skN_skN (s : ByteArray) (k : Nat) : skN s (skN s k) = skN s k := by
  by_cases h : skN s k < s.size
  · refine skN_stop s _ h ?_
    have e := dl_sk s k
    rw [dl_cons s _ h] at e
    have key : ∀ z : List UInt8, ∀ a r, skL z = a :: r → blankU a = false := by
      intro z
      induction z with
      | nil => intro a r e; cases e
      | cons b z ih =>
        intro a r e
        unfold skL at e
        rw [List.dropWhile_cons] at e
        split at e
        · exact ih a r e
        · rename_i hb
          injection e with e1 _
          rw [← e1]
          simpa using hb
    exact key _ _ _ e.symm
  · exact skN_end s _ (by omega)
theorem elemL_tk0 (s : ByteArray) (k : Nat) (h : tkN s k = 0) : elemL (dl s k) = none := by
  unfold elemL
  rw [if_pos ((tok_nil s k).1 h)]
theorem elemL_plain (s : ByteArray) (k k2 : Nat) (h : tkN s k ≠ 0) (h2 : skN s (k + tkN s k) = k2) (hc : ∀ hlt : k2 < s.size, s[k2] ≠ 61) :
    elemL (dl s k) = some (⟨lowL ((dl s k).takeWhile tokU), [], false⟩, dl s k2) := by
  unfold elemL
  rw [if_neg fun e => h ((tok_nil s k).2 e), ← dl_tok, ← dl_sk, h2]
  refine elemT_ne _ _ ?_
  intro r e
  by_cases hlt : k2 < s.size
  · rw [dl_cons s k2 hlt] at e
    injection e with e _
    exact hc hlt e
  · rw [dl_end s k2 (by omega)] at e
    cases e
theorem elemL_val (s : ByteArray) (k k2 : Nat) (h : tkN s k ≠ 0) (h2 : skN s (k + tkN s k) = k2) (hlt : k2 < s.size) (hc : s[k2] = 61) :
    elemL (dl s k) = (valL (dl s (skN s (k2 + 1)))).map fun p => (⟨lowL ((dl s k).takeWhile tokU), p.1, true⟩, p.2) := by
  unfold elemL
  rw [if_neg fun e => h ((tok_nil s k).2 e), ← dl_tok, ← dl_sk, h2, dl_cons s k2 hlt, hc, elemT_eq, ← dl_sk]
theorem elemR_lt {l t : List UInt8} {d : Dv} (h : elemR l = some (d, t)) : t.length < l.length := by
  unfold elemR at h
  cases he : elemL l with
  | none => rw [he] at h; cases h
  | some p =>
    obtain ⟨d', q⟩ := p
    rw [he] at h
    have h1 := elemL_lt he
    have h2 := skL_le q
    simp only at h
    cases hq : skL q with
    | nil => rw [hq] at h; injection h with h; injection h with _ h; rw [← h]; simp; omega
    | cons e r =>
      rw [hq] at h h2
      simp only [List.length_cons] at h h2
      split at h
      · injection h with h; injection h with _ h; rw [← h]; omega
      · cases h
def dirR (l : List UInt8) (acc : List Dv) : List Dv × Int := dirGo (l.length + 1) l acc
theorem dirR_end {l : List UInt8} (acc : List Dv) (h : skL l = []) : dirR l acc = (acc, 0) := by
  unfold dirR
  rw [dirGo, h]
theorem dirR_semi {l r : List UInt8} (acc : List Dv) (h : skL l = 59 :: r) : dirR l acc = dirR r acc := by
  have hs := skL_le l
  rw [h] at hs
  simp only [List.length_cons] at hs
  unfold dirR
  rw [dirGo, h]
  show (if (59 : UInt8) = 59 then dirGo l.length r acc else _) = _
  rw [if_pos rfl]
  exact dirGo_more _ _ r acc (by omega) (by omega)
theorem dirR_sk (l : List UInt8) (acc : List Dv) : dirR l acc = dirR (skL l) acc := by
  have hs := skL_le l
  have hss : skL (skL l) = skL l := by
    cases hk : skL l with
    | nil => rfl
    | cons c r =>
      have : blankU c = false := by
        have key : ∀ z : List UInt8, ∀ a r, skL z = a :: r → blankU a = false := by
          intro z
          induction z with
          | nil => intro a r e; cases e
          | cons b z ih =>
            intro a r e
            unfold skL at e
            rw [List.dropWhile_cons] at e
            split at e
            · exact ih a r e
            · rename_i hb
              injection e with e1 _
              rw [← e1]
              simpa using hb
        exact key l c r hk
      exact skL_head this
  unfold dirR
  rw [dirGo_more ((skL l).length + 1) (l.length + 1) (skL l) acc (by omega) (by omega), dirGo, dirGo, hss]
theorem dirR_full {l r : List UInt8} {c : UInt8} (acc : List Dv) (h : skL l = c :: r) (hc : c ≠ 59) (ha : acc.length = 32) : dirR l acc = ([], 3) := by
  unfold dirR
  rw [dirGo, h]
  simp only [if_neg hc, if_pos ha]
theorem dirR_bad {l r : List UInt8} {c : UInt8} (acc : List Dv) (h : skL l = c :: r) (hc : c ≠ 59) (ha : acc.length ≠ 32) (he : elemR (c :: r) = none) : dirR l acc = ([], 4) := by
  unfold dirR
  rw [dirGo, h]
  simp only [if_neg hc, if_neg ha]
  unfold elemR at he
  cases hl : elemL (c :: r) with
  | none => rfl
  | some p =>
    obtain ⟨d, q⟩ := p
    rw [hl] at he
    simp only at he ⊢
    cases hq : skL q with
    | nil => rw [hq] at he; cases he
    | cons e t =>
      rw [hq] at he
      simp only at he ⊢
      split at he
      · cases he
      · rename_i h59
        rw [if_neg h59]
theorem dirR_elem {l r t : List UInt8} {c : UInt8} {d : Dv} (acc : List Dv) (h : skL l = c :: r) (hc : c ≠ 59) (ha : acc.length ≠ 32) (he : elemR (c :: r) = some (d, t)) : dirR l acc = dirR t (acc ++ [d]) := by
  have hs := skL_le l
  have hlt := elemR_lt he
  rw [h] at hs
  simp only [List.length_cons] at hs hlt
  unfold dirR
  rw [dirGo, h]
  simp only [if_neg hc, if_neg ha]
  unfold elemR at he
  cases hl : elemL (c :: r) with
  | none => rw [hl] at he; cases he
  | some p =>
    obtain ⟨d', q⟩ := p
    rw [hl] at he
    simp only at he ⊢
    cases hq : skL q with
    | nil =>
      rw [hq] at he
      injection he with he
      injection he with h1 h2
      rw [← h2, h1]
      rw [dirGo]
      rfl
    | cons e u =>
      rw [hq] at he
      simp only at he ⊢
      split at he
      · rename_i h59
        injection he with he
        injection he with h1 h2
        rw [if_pos h59, h1, h2]
        exact dirGo_more _ _ t _ (by omega) (by omega)
      · cases he

end Go.Proofs.YtpopkeidpohdiaaDoor
