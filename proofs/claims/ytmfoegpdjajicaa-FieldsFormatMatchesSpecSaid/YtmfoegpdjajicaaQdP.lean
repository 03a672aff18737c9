/-
  Plain mathematics of package quoted: no program.
-/
import Derived.Test.YtmfoegpdjajicaaAscP
namespace Go.Proofs.Ytmfoegpdjajicaa
open Go.RowKit

def inV (b : Int) : Bool := b == 9 || decide (32 ≤ b) && !(b == 127)
def inU (c : UInt8) : Bool := inV (c.toNat : Int)
def tokU (c : UInt8) : Bool := tokenB (c.toNat : Int)

/-- How many bytes of a token stand at a place. -/
def tkN (s : ByteArray) (k : Nat) : Nat := (((ls s).drop k).takeWhile tokU).length
def tkE (s : ByteArray) (i : Int) : Int := if i < 0 then i else i + (tkN s i.toNat : Int)
theorem tkN_end (s : ByteArray) (k : Nat) (h : s.size ≤ k) : tkN s k = 0 := by
  unfold tkN
  rw [List.drop_eq_nil_of_le (by rw [ls_length]; exact h)]
  rfl
theorem tkN_stop (s : ByteArray) (k : Nat) (h : k < s.size) (ht : tokU s[k] = false) : tkN s k = 0 := by
  unfold tkN
  rw [drop_ls_cons s k h, List.takeWhile_cons, ht]
  rfl
theorem tkN_step (s : ByteArray) (k : Nat) (h : k < s.size) (ht : tokU s[k] = true) : tkN s k = tkN s (k + 1) + 1 := by
  unfold tkN
  rw [drop_ls_cons s k h, List.takeWhile_cons, ht]
  rfl
theorem takeWhile_le {α : Type} (p : α → Bool) : ∀ l : List α, (l.takeWhile p).length ≤ l.length
  | [] => Nat.le_refl _
  | a :: l => by
    rw [List.takeWhile_cons]
    split
    · have := takeWhile_le p l
      simp; omega
    · simp
theorem tkN_le (s : ByteArray) (k : Nat) (h : k ≤ s.size) : k + tkN s k ≤ s.size := by
  have := takeWhile_le tokU ((ls s).drop k)
  rw [List.length_drop, ls_length] at this
  unfold tkN
  omega
theorem tkE_nat (s : ByteArray) (k : Nat) : tkE s (k : Int) = ((k + tkN s k : Nat) : Int) := by
  unfold tkE
  rw [if_neg (by omega), Int.toNat_natCast]
  omega
theorem tkE_neg (s : ByteArray) (i : Int) (h : i < 0) : tkE s i = i := by unfold tkE; rw [if_pos h]
theorem tkE_far (s : ByteArray) (i : Int) (h : (s.size : Int) ≤ i) : tkE s i = i := by
  unfold tkE
  rw [if_neg (by omega), tkN_end s _ (by omega)]
  omega

def isTk (s : ByteArray) : Bool := !(ls s).isEmpty && (ls s).all tokU
theorem takeWhile_full {α : Type} (p : α → Bool) : ∀ l : List α, decide ((l.takeWhile p).length = l.length) = l.all p
  | [] => rfl
  | a :: l => by
    rw [List.takeWhile_cons, List.all_cons]
    cases hp : p a with
    | true => simpa using takeWhile_full p l
    | false => simp
theorem isTk_eq (s : ByteArray) (h : s.size ≠ 0) : isTk s = decide (tkN s 0 = s.size) := by
  have hne : (ls s).isEmpty = false := by
    cases hl : ls s with
    | nil =>
      have := ls_length s
      rw [hl] at this
      simp at this
      omega
    | cons a l => rfl
  unfold isTk tkN
  rw [hne, List.drop_zero, ← ls_length, takeWhile_full]
  rfl
theorem isTk_nil (s : ByteArray) (h : s.size = 0) : isTk s = false := by
  have e : ls s = [] := List.eq_nil_of_length_eq_zero (by rw [ls_length]; exact h)
  unfold isTk
  rw [e]
  rfl

/-- A reader of the elements of a quoted string: what is left to be answered. The numbers are those of the errors. -/
def pq : Bool → List UInt8 → List UInt8 → Nat → List UInt8 × Nat × Int
  | _, [], _, _ => ([], 0, 5)
  | esc, c :: l, acc, k =>
    if inU c = false then ([], 0, 4)
    else if esc = false ∧ c = 34 then (acc, k + 1, 0)
    else if esc = false ∧ c = 92 then pq true l acc (k + 1)
    else pq false l (acc ++ [c]) (k + 1)
theorem pq_end (esc : Bool) (acc : List UInt8) (k : Nat) : pq esc [] acc k = ([], 0, 5) := by cases esc <;> rfl
theorem pq_bad (esc : Bool) (c : UInt8) (l acc : List UInt8) (k : Nat) (h : inU c = false) : pq esc (c :: l) acc k = ([], 0, 4) := by
  rw [pq, if_pos h]
theorem pq_quote (l acc : List UInt8) (k : Nat) : pq false (34 :: l) acc k = (acc, k + 1, 0) := by
  rw [pq, if_neg (by decide), if_pos ⟨rfl, rfl⟩]
theorem pq_esc (l acc : List UInt8) (k : Nat) : pq false (92 :: l) acc k = pq true l acc (k + 1) := by
  rw [pq, if_neg (by decide), if_neg (by decide), if_pos ⟨rfl, rfl⟩]
theorem pq_put (esc : Bool) (c : UInt8) (l acc : List UInt8) (k : Nat) (h : inU c = true) (he : esc = true ∨ (c ≠ 34 ∧ c ≠ 92)) : pq esc (c :: l) acc k = pq false l (acc ++ [c]) (k + 1) := by
  rw [pq, if_neg (by rw [h]; decide), if_neg, if_neg]
  · rintro ⟨h1, h2⟩
    rcases he with he | he
    · rw [h1] at he; cases he
    · exact he.2 h2
  · rintro ⟨h1, h2⟩
    rcases he with he | he
    · rw [h1] at he; cases he
    · exact he.1 h2
theorem pq_len : ∀ (l : List UInt8) (esc : Bool) (acc : List UInt8) (k : Nat), (pq esc l acc k).1.length ≤ acc.length + l.length
  | [], esc, acc, k => by rw [pq_end]; simp
  | c :: l, esc, acc, k => by
    rw [pq]
    split
    · simp
    · split
      · simp
      · split
        · have := pq_len l true acc (k + 1)
          simp; omega
        · have := pq_len l false (acc ++ [c]) (k + 1)
          simp at this ⊢; omega

def qpar (s : ByteArray) (i : Int) : List UInt8 × Nat × Int :=
  if i < 0 ∨ (s.size : Int) < i then ([], 0, 2) else
    match (ls s).drop i.toNat with
    | [] => ([], 0, 4)
    | c :: l => if c = 34 then pq false l [] (i.toNat + 1) else ([], 0, 4)
theorem qpar_range (s : ByteArray) (i : Int) (h : i < 0 ∨ (s.size : Int) < i) : qpar s i = ([], 0, 2) := by unfold qpar; rw [if_pos h]
theorem qpar_end (s : ByteArray) (k : Nat) (h : k = s.size) : qpar s (k : Int) = ([], 0, 4) := by
  unfold qpar
  rw [if_neg (by omega), Int.toNat_natCast, List.drop_eq_nil_of_le (by rw [ls_length]; omega)]
theorem qpar_none (s : ByteArray) (k : Nat) (h : k < s.size) (hc : s[k] ≠ 34) : qpar s (k : Int) = ([], 0, 4) := by
  unfold qpar
  rw [if_neg (by omega), Int.toNat_natCast, drop_ls_cons s k h]
  exact if_neg hc
theorem qpar_some (s : ByteArray) (k : Nat) (h : k < s.size) (hc : s[k] = 34) : qpar s (k : Int) = pq false ((ls s).drop (k + 1)) [] (k + 1) := by
  unfold qpar
  rw [if_neg (by omega), Int.toNat_natCast, drop_ls_cons s k h]
  exact if_pos hc
theorem qpar_len (s : ByteArray) (i : Int) : (qpar s i).1.length ≤ s.size := by
  unfold qpar
  split
  · simp
  · split
    · simp
    · rename_i c l hd
      split
      · have h1 := pq_len l false [] (i.toNat + 1)
        have h2 := congrArg List.length hd
        rw [List.length_drop, ls_length] at h2
        simp at h1 h2
        omega
      · simp
theorem pq_idx : ∀ (l : List UInt8) (esc : Bool) (acc : List UInt8) (k : Nat), (pq esc l acc k).2.1 ≤ k + l.length
  | [], esc, acc, k => by rw [pq_end]; simp
  | c :: l, esc, acc, k => by
    rw [pq]
    split
    · simp
    · split
      · simp
      · split
        · have := pq_idx l true acc (k + 1)
          simp; omega
        · have := pq_idx l false (acc ++ [c]) (k + 1)
          simp; omega

/-- What Quote returns. -/
def esc1 (c : UInt8) : List UInt8 := if c = 34 ∨ c = 92 then [92, c] else [c]
def escL (l : List UInt8) : List UInt8 := l.flatMap esc1
def quoL (l : List UInt8) : List UInt8 := 34 :: (escL l ++ [34])
theorem esc1_yes (c : UInt8) (h : c = 34 ∨ c = 92) : esc1 c = [92, c] := by unfold esc1; rw [if_pos h]
theorem esc1_no (c : UInt8) (h : ¬ (c = 34 ∨ c = 92)) : esc1 c = [c] := by unfold esc1; rw [if_neg h]
theorem escL_snoc (l : List UInt8) (c : UInt8) : escL (l ++ [c]) = escL l ++ esc1 c := by simp [escL]
theorem esc1_len (c : UInt8) : (esc1 c).length ≤ 2 := by unfold esc1; split <;> simp
theorem escL_len : ∀ l : List UInt8, (escL l).length ≤ 2 * l.length
  | [] => by simp [escL]
  | c :: l => by
    have h1 := escL_len l
    have h2 := esc1_len c
    have e : escL (c :: l) = esc1 c ++ escL l := by simp [escL]
    rw [e, List.length_append, List.length_cons]
    omega
def quoS (v : ByteArray) : ByteArray := if (ls v).all inU then bs (quoL (ls v)) else bs []
def quoE (v : ByteArray) : Int := if (ls v).all inU then 0 else 4
theorem quo_yes (v : ByteArray) (h : (ls v).all inU = true) : quoS v = bs (quoL (ls v)) ∧ quoE v = 0 := by
  unfold quoS quoE; rw [if_pos h, if_pos h]; exact ⟨rfl, rfl⟩
theorem quo_no (v : ByteArray) (h : (ls v).all inU = false) : quoS v = bs [] ∧ quoE v = 4 := by
  unfold quoS quoE; rw [if_neg (by rw [h]; decide), if_neg (by rw [h]; decide)]; exact ⟨rfl, rfl⟩
theorem quo_bad (v : ByteArray) (k : Nat) (h : k < v.size) (hc : inU v[k] = false) : quoS v = bs [] ∧ quoE v = 4 := by
  refine quo_no v ?_
  rw [List.all_eq_false]
  exact ⟨v[k], List.mem_of_getElem? (ls_get v k h), by rw [hc]; decide⟩

/-- What was quoted is read back. -/
theorem pq_quoted : ∀ (l r acc : List UInt8) (k : Nat), l.all inU = true → pq false (escL l ++ 34 :: r) acc k = (acc ++ l, k + (escL l).length + 1, 0)
  | [], r, acc, k, _ => by
    rw [show escL ([] : List UInt8) = [] from rfl, List.nil_append, pq_quote, List.append_nil]
    rfl
  | c :: l, r, acc, k, h => by
    rw [List.all_cons, Bool.and_eq_true] at h
    have e : escL (c :: l) = esc1 c ++ escL l := by simp [escL]
    have ih := fun kk => pq_quoted l r (acc ++ [c]) kk h.2
    by_cases hc : c = 34 ∨ c = 92
    · rw [e, esc1_yes c hc]
      rw [show [92, c] ++ escL l ++ 34 :: r = 92 :: (c :: (escL l ++ 34 :: r)) from rfl, pq_esc, pq_put true c _ _ _ h.1 (.inl rfl), ih]
      simp
      omega
    · rw [e, esc1_no c hc]
      rw [show [c] ++ escL l ++ 34 :: r = c :: (escL l ++ 34 :: r) from rfl, pq_put false c _ _ _ h.1 (.inr (by
        constructor
        · exact fun e => hc (.inl e)
        · exact fun e => hc (.inr e))), ih]
      simp
      omega
theorem qpar_quoted (b v a : ByteArray) (h : (ls v).all inU = true) : qpar (b ++ bs (quoL (ls v)) ++ a) (b.size : Int) = (ls v, b.size + (quoL (ls v)).length, 0) := by
  unfold qpar
  rw [if_neg (by
    rw [ByteArray.size_append, ByteArray.size_append]
    omega), Int.toNat_natCast]
  have hd : (ls (b ++ bs (quoL (ls v)) ++ a)).drop b.size = 34 :: (escL (ls v) ++ 34 :: ls a) := by
    rw [ls_append, ls_append, ls_bs, List.append_assoc, List.drop_append_of_le_length (by rw [ls_length]; exact Nat.le_refl _), List.drop_eq_nil_of_le (by rw [ls_length]; exact Nat.le_refl _)]
    simp [quoL]
  rw [hd]
  show (if (34 : UInt8) = 34 then pq false (escL (ls v) ++ 34 :: ls a) [] (b.size + 1) else _) = _
  rw [if_pos rfl, pq_quoted _ _ _ _ h]
  simp [quoL]
  omega

/-- A token is quoted as it stands. -/
theorem tok_in (c : UInt8) (h : tokU c = true) : inU c = true ∧ ¬ (c = 34 ∨ c = 92) := by
  have key : ∀ n : Fin 256, tokenB ((n.val : Nat) : Int) = true → inV ((n.val : Nat) : Int) = true ∧ n.val ≠ 34 ∧ n.val ≠ 92 := by decide +kernel
  have hk := key ⟨c.toNat, c.toNat_lt⟩ h
  refine ⟨hk.1, ?_⟩
  rintro (e | e)
  · exact hk.2.1 (by rw [e]; rfl)
  · exact hk.2.2 (by rw [e]; rfl)
theorem tok_esc : ∀ l : List UInt8, l.all tokU = true → escL l = l ∧ l.all inU = true
  | [], _ => ⟨rfl, rfl⟩
  | c :: l, h => by
    rw [List.all_cons, Bool.and_eq_true] at h
    have h1 := tok_in c h.1
    have h2 := tok_esc l h.2
    refine ⟨?_, by rw [List.all_cons, h1.1, h2.2]; rfl⟩
    have e : escL (c :: l) = esc1 c ++ escL l := by simp [escL]
    rw [e, esc1_no c h1.2, h2.1]
    rfl
theorem takeWhile_all {α : Type} (p : α → Bool) : ∀ l : List α, (l.takeWhile p).all p = true
  | [] => rfl
  | a :: l => by
    rw [List.takeWhile_cons]
    cases hp : p a with
    | true => simp [hp]
    | false => rfl
theorem takeWhile_take {α : Type} (p : α → Bool) : ∀ l : List α, l.take (l.takeWhile p).length = l.takeWhile p
  | [] => rfl
  | a :: l => by
    rw [List.takeWhile_cons]
    cases hp : p a with
    | true => simpa using takeWhile_take p l
    | false => rfl
/-- The bytes of the token at a place. -/
theorem sub_tok (s : ByteArray) (k : Nat) : ls (s.extract k (k + tkN s k)) = ((ls s).drop k).takeWhile tokU := by
  rw [ls_extract, show k + tkN s k - k = tkN s k by omega]
  exact takeWhile_take tokU _
theorem sub_tok_is (s : ByteArray) (k : Nat) (h : 0 < tkN s k) : isTk (s.extract k (k + tkN s k)) = true := by
  unfold isTk
  rw [sub_tok, takeWhile_all]
  have : (((ls s).drop k).takeWhile tokU).isEmpty = false := by
    cases hl : ((ls s).drop k).takeWhile tokU with
    | nil =>
      unfold tkN at h
      rw [hl] at h
      simp at h
    | cons a l => rfl
  rw [this]
  rfl
theorem takeWhile_more {α : Type} (p : α → Bool) : ∀ l : List α, (l.takeWhile p).length < l.length → (l.take ((l.takeWhile p).length + 1)).all p = false
  | [], h => by simp at h
  | a :: l, h => by
    rw [List.takeWhile_cons] at h ⊢
    cases hp : p a with
    | true =>
      rw [hp] at h
      simp at h
      have ih := takeWhile_more p l h
      simpa [hp] using ih
    | false => simp [hp]
theorem sub_tok_not (s : ByteArray) (k : Nat) (h : k + tkN s k < s.size) : isTk (s.extract k (k + tkN s k + 1)) = false := by
  unfold isTk
  rw [ls_extract, show k + tkN s k + 1 - k = tkN s k + 1 by omega]
  have := takeWhile_more tokU ((ls s).drop k) (by
    rw [List.length_drop, ls_length]
    unfold tkN at h
    omega)
  unfold tkN
  rw [this, Bool.and_false]
theorem qpar_tok (s : ByteArray) (k : Nat) (_h : k ≤ s.size) : qpar (bs [34] ++ s.extract k (k + tkN s k) ++ bs [34]) 0 = (ls (s.extract k (k + tkN s k)), tkN s k + 2, 0) := by
  have ha : (ls (s.extract k (k + tkN s k))).all tokU = true := by rw [sub_tok, takeWhile_all]
  have hl : (ls (s.extract k (k + tkN s k))).length = tkN s k := by rw [sub_tok]; rfl
  have hesc := tok_esc _ ha
  have hq := qpar_quoted (bs []) (s.extract k (k + tkN s k)) (bs []) hesc.2
  have e : bs [] ++ bs (quoL (ls (s.extract k (k + tkN s k)))) ++ bs [] = bs [34] ++ s.extract k (k + tkN s k) ++ bs [34] := by
    apply ls_inj
    rw [ls_append, ls_append, ls_append, ls_append, ls_bs, ls_bs, ls_bs, quoL, hesc.1]
    simp
  rw [e] at hq
  have e2 : (quoL (ls (s.extract k (k + tkN s k)))).length = tkN s k + 2 := by
    rw [quoL, hesc.1, List.length_cons, List.length_append, hl]
    rfl
  rw [e2, show ((bs []).size : Int) = 0 from rfl, show (bs []).size = 0 from rfl, Nat.zero_add] at hq
  exact hq

end Go.Proofs.Ytmfoegpdjajicaa
