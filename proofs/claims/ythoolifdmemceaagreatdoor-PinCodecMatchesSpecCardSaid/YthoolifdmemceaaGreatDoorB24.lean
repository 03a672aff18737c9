/-
Plain mathematics of package pin (layer 22): pins, their bytes, their order. No program.
How names are compared from their ends: no program.
Package pin: Valid and Compare.
Package pin: Compare.
Contract of hstsstorekeep.Bytes, and string(b) of a slice of bytes.
make([]byte, 0, n); a part of a slice. No function of the program.
-/
import Derived.Test.YthoolifdmemceaaGreatDoorB10
import Derived.Test.YthoolifdmemceaaGreatDoorB23
import Derived.Lib.Bytealg
import Derived.Lib.Small
import Derived.Lib.LastIndexByte
import Derived.Test.YthoolifdmemceaaGreatDoorB11
import Derived.Test.YthoolifdmemceaaGreatDoorShelf
import Derived.Shelf.Small.Strs
import Derived.Shelf.Small.Wraps
import Derived.Deep.LoopGhost
import Derived.BigQuiet
import Derived.Deep.QuietTactic
import Derived.Shelf.Strings.LastIndex
import Derived.Test.YthoolifdmemceaaGreatDoorB02
import Derived.Laws.MakeOwn
namespace Go.Proofs.YthoolifdmemceaaGreatDoor
section
open Go.RowKit

/-- A pin. -/
structure Pv where
  host : List UInt8
  sub : Bool
  exp : Int
deriving DecidableEq
def pinOk (p : Pv) : Bool := vnL p.host && decide (0 ≤ p.exp) && decide (p.exp ≤ 1099511627776)
def subN (b : Bool) : Nat := if b then 1 else 0
/-- The bytes of a pin. -/
def pinE (p : Pv) : List UInt8 := encT p.host ++ (enc (subN p.sub) ++ enc p.exp.toNat)
def pinEnc (p : Pv) : List UInt8 × Int := if pinOk p = false then ([], 1) else (pinE p, 0)
def pz : Pv := ⟨[], false, 0⟩
/-- What a pin at the beginning is: the pin, its length, the error. -/
def pinDec (l : List UInt8) : Pv × Nat × Nat :=
  if (decT l).2.2 ≠ 0 then (pz, 0, (decT l).2.2)
  else if (dec (l.drop (decT l).2.1)).2.2 ≠ 0 then (pz, 0, (dec (l.drop (decT l).2.1)).2.2)
  else if 1 < (dec (l.drop (decT l).2.1)).1 then (pz, 0, 6)
  else if (dec (l.drop ((decT l).2.1 + (dec (l.drop (decT l).2.1)).2.1))).2.2 ≠ 0 then (pz, 0, (dec (l.drop ((decT l).2.1 + (dec (l.drop (decT l).2.1)).2.1))).2.2)
  else if 1099511627776 < (dec (l.drop ((decT l).2.1 + (dec (l.drop (decT l).2.1)).2.1))).1 then (pz, 0, 2)
  else if vnL (decT l).1 = false then (pz, 0, 14)
  else (⟨(decT l).1, decide ((dec (l.drop (decT l).2.1)).1 = 1), ((dec (l.drop ((decT l).2.1 + (dec (l.drop (decT l).2.1)).2.1))).1 : Int)⟩, (decT l).2.1 + (dec (l.drop (decT l).2.1)).2.1 + (dec (l.drop ((decT l).2.1 + (dec (l.drop (decT l).2.1)).2.1))).2.1, 0)

theorem vn_len {n : List UInt8} (h : vnL n = true) : n.length ≤ 253 := by
  unfold vnL at h
  simp only [Bool.and_eq_true, decide_eq_true_iff] at h
  exact h.1.1.2
theorem pinOk_iff {p : Pv} : pinOk p = true ↔ vnL p.host = true ∧ 0 ≤ p.exp ∧ p.exp ≤ 1099511627776 := by
  unfold pinOk
  rw [Bool.and_eq_true, Bool.and_eq_true, decide_eq_true_iff, decide_eq_true_iff, and_assoc]
/-- Decode reads back what Encode has written, whatever follows. -/
theorem pin_back {p : Pv} (h : pinOk p = true) (rest : List UInt8) : pinDec (pinE p ++ rest) = (p, (pinE p).length, 0) := by
  obtain ⟨h1, h2, h3⟩ := pinOk_iff.1 h
  have hl := vn_len h1
  obtain ⟨e, he⟩ := Int.eq_ofNat_of_zero_le h2
  have e1 : decT (pinE p ++ rest) = (p.host, (encT p.host).length, 0) := by
    unfold pinE
    rw [List.append_assoc]
    exact decT_encT _ _ (by omega)
  have d1 : (pinE p ++ rest).drop (encT p.host).length = enc (subN p.sub) ++ (enc p.exp.toNat ++ rest) := by
    unfold pinE
    rw [List.append_assoc, List.drop_left, List.append_assoc]
  have hs : subN p.sub ≤ 1 := by unfold subN; split <;> omega
  have e2 : dec (enc (subN p.sub) ++ (enc p.exp.toNat ++ rest)) = (subN p.sub, (enc (subN p.sub)).length, 0) := dec_enc (by omega) _
  have d2 : (pinE p ++ rest).drop ((encT p.host).length + (enc (subN p.sub)).length) = enc p.exp.toNat ++ rest := by
    rw [← List.drop_drop, d1, List.drop_left]
  have e3 : dec (enc p.exp.toNat ++ rest) = (p.exp.toNat, (enc p.exp.toNat).length, 0) := dec_enc (by omega) _
  unfold pinDec
  simp only [e1, d1, e2, d2, e3, ne_eq, not_true_eq_false, if_false]
  rw [if_neg (by omega), if_neg (by omega), if_neg (by rw [h1]; decide)]
  have hsub : decide (subN p.sub = 1) = p.sub := by cases p.sub <;> rfl
  have hexp : ((p.exp.toNat : Nat) : Int) = p.exp := by omega
  rw [hsub, hexp]
  congr 2
  unfold pinE
  rw [List.length_append, List.length_append, Nat.add_assoc]
/-- Whatever is decoded has these bytes. -/
theorem pin_canon {l : List UInt8} (h : (pinDec l).2.2 = 0) : pinOk (pinDec l).1 = true ∧ pinE (pinDec l).1 = l.take (pinDec l).2.1 ∧ (pinDec l).2.1 ≤ l.length := by
  unfold pinDec at h ⊢
  by_cases g1 : (decT l).2.2 ≠ 0
  · rw [if_pos g1] at h; exact absurd h g1
  rw [if_neg g1] at h ⊢
  obtain ⟨_, c2, c3, _⟩ := decT_canon (l := l) (by simpa using g1)
  generalize decT l = t at *
  obtain ⟨s, n, e⟩ := t
  dsimp only at *
  by_cases g2 : (dec (l.drop n)).2.2 ≠ 0
  · rw [if_pos g2] at h; exact absurd h g2
  rw [if_neg g2] at h ⊢
  obtain ⟨_, f2, _, f3, _⟩ := dec_canon (l := l.drop n) (by simpa using g2)
  generalize dec (l.drop n) = u at *
  obtain ⟨f, k, e'⟩ := u
  dsimp only at *
  by_cases g3 : 1 < f
  · rw [if_pos g3] at h; cases h
  rw [if_neg g3] at h ⊢
  by_cases g4 : (dec (l.drop (n + k))).2.2 ≠ 0
  · rw [if_pos g4] at h; exact absurd h g4
  rw [if_neg g4] at h ⊢
  obtain ⟨_, m2, _, m3, _⟩ := dec_canon (l := l.drop (n + k)) (by simpa using g4)
  generalize dec (l.drop (n + k)) = v at *
  obtain ⟨x, m, e''⟩ := v
  dsimp only at *
  by_cases g5 : 1099511627776 < x
  · rw [if_pos g5] at h; cases h
  rw [if_neg g5] at h ⊢
  by_cases g6 : vnL s = false
  · rw [if_pos g6] at h; cases h
  rw [if_neg g6]
  rw [List.length_drop] at f2 m2
  refine ⟨pinOk_iff.2 ⟨by simpa using g6, by show (0 : Int) ≤ (x : Int); omega, by show (x : Int) ≤ _; omega⟩, ?_, by show n + k + m ≤ _; omega⟩
  have hf : subN (decide (f = 1)) = f := by
    unfold subN
    by_cases hf1 : f = 1
    · subst hf1; rfl
    · rw [decide_eq_false hf1]
      show 0 = f
      omega
  show encT s ++ (enc (subN (decide (f = 1))) ++ enc ((x : Int)).toNat) = l.take (n + k + m)
  rw [hf, Int.toNat_natCast, c3, f3, m3, List.take_add, List.take_add, List.append_assoc]

/-! ### the order -/
section
variable {α : Type}
def lexC (c : α → α → Int) : List α → List α → Int
  | [], [] => 0
  | [], _ :: _ => -1
  | _ :: _, [] => 1
  | x :: l, y :: m => if c x y = 0 then lexC c l m else c x y
/-- A total order, told by -1, 0 and 1. -/
structure TotC (c : α → α → Int) : Prop where
  vals : ∀ x y, c x y = -1 ∨ c x y = 0 ∨ c x y = 1
  swap : ∀ x y, c y x = -c x y
  eq : ∀ x y, c x y = 0 → x = y
  trans : ∀ x y z, c x y ≤ 0 → c y z ≤ 0 → c x z ≤ 0
variable {c : α → α → Int}
theorem TotC.refl (h : TotC c) (x : α) : c x x = 0 := by have := h.swap x x; omega
theorem lex_vals (h : TotC c) : ∀ l m, lexC c l m = -1 ∨ lexC c l m = 0 ∨ lexC c l m = 1
  | [], [] => .inr (.inl rfl)
  | [], _ :: _ => .inl rfl
  | _ :: _, [] => .inr (.inr rfl)
  | x :: l, y :: m => by
    rw [lexC]
    split
    · exact lex_vals h l m
    · exact h.vals x y
theorem lex_swap (h : TotC c) : ∀ l m, lexC c m l = -lexC c l m
  | [], [] => rfl
  | [], _ :: _ => rfl
  | _ :: _, [] => rfl
  | x :: l, y :: m => by
    have hs := h.swap x y
    rw [lexC, lexC]
    by_cases h0 : c x y = 0
    · rw [if_pos (by omega), if_pos h0]
      exact lex_swap h l m
    · rw [if_neg (by omega), if_neg h0]
      exact hs
theorem lex_eq (h : TotC c) : ∀ l m, lexC c l m = 0 → l = m
  | [], [], _ => rfl
  | [], _ :: _, e => by cases e
  | _ :: _, [], e => by cases e
  | x :: l, y :: m, e => by
    rw [lexC] at e
    by_cases h0 : c x y = 0
    · rw [if_pos h0] at e
      rw [h.eq x y h0, lex_eq h l m e]
    · rw [if_neg h0] at e
      exact absurd e h0
theorem lex_trans (h : TotC c) : ∀ l m n, lexC c l m ≤ 0 → lexC c m n ≤ 0 → lexC c l n ≤ 0
  | [], _, [], _, _ => by simp [lexC]
  | [], _, _ :: _, _, _ => by simp [lexC]
  | _ :: _, [], _, e, _ => by simp [lexC] at e
  | _ :: _, _ :: _, [], _, e => by simp [lexC] at e
  | x :: l, y :: m, z :: n, e1, e2 => by
    rw [lexC] at e1 e2 ⊢
    by_cases h1 : c x y = 0
    · rw [if_pos h1] at e1
      have hxy := h.eq x y h1
      subst hxy
      by_cases h2 : c x z = 0
      · rw [if_pos h2] at e2 ⊢
        exact lex_trans h l m n e1 e2
      · rw [if_neg h2] at e2 ⊢
        exact e2
    · rw [if_neg h1] at e1
      by_cases h2 : c y z = 0
      · have hyz := h.eq y z h2
        subst hyz
        rw [if_neg h1]
        exact e1
      · rw [if_neg h2] at e2
        have ht := h.trans x y z e1 e2
        by_cases h3 : c x z = 0
        · have hxz := h.eq x z h3
          subst hxz
          have := h.swap x y
          omega
        · rw [if_neg h3]
          exact ht
theorem TotC.lex (h : TotC c) : TotC (lexC c) := ⟨lex_vals h, lex_swap h, lex_eq h, lex_trans h⟩
theorem lex_prefix (h : TotC c) : ∀ p t, lexC c p (p ++ t) = if t = [] then 0 else -1
  | [], [] => rfl
  | [], _ :: _ => rfl
  | x :: p, t => by
    rw [List.cons_append, lexC, if_pos (h.refl x)]
    exact lex_prefix h p t
/-- What stands between p and a list that begins with p begins with p. -/
theorem lex_between (h : TotC c) : ∀ p q t, lexC c p q ≤ 0 → lexC c q (p ++ t) ≤ 0 → p <+: q
  | [], q, _, _, _ => ⟨q, rfl⟩
  | _ :: _, [], _, e, _ => by simp [lexC] at e
  | x :: p, y :: q, t, e1, e2 => by
    rw [List.cons_append] at e2
    rw [lexC] at e1 e2
    have hs := h.swap x y
    by_cases h0 : c x y = 0
    · rw [if_pos h0] at e1
      rw [if_pos (by omega)] at e2
      obtain ⟨s, rfl⟩ := lex_between h p q t e1 e2
      rw [h.eq x y h0]
      exact ⟨s, rfl⟩
    · rw [if_neg h0] at e1
      rw [if_neg (by omega)] at e2
      omega
end
def bytC (a b : UInt8) : Int := if a < b then -1 else if b < a then 1 else 0
theorem tot_byt : TotC bytC := by
  have hlt : ∀ a b : UInt8, (a < b) = (a.toNat < b.toNat) := fun a b => by rw [UInt8.lt_iff_toNat_lt]
  refine ⟨fun x y => ?_, fun x y => ?_, fun x y h => ?_, fun x y z h1 h2 => ?_⟩
  · unfold bytC
    split
    · exact .inl rfl
    · split
      · exact .inr (.inr rfl)
      · exact .inr (.inl rfl)
  · unfold bytC
    simp only [hlt]
    split <;> split <;> omega
  · unfold bytC at h
    simp only [hlt] at h
    refine UInt8.toNat_inj.1 ?_
    split at h
    · cases h
    · split at h
      · cases h
      · omega
  · unfold bytC at *
    simp only [hlt] at *
    split <;> split at h1 <;> split at h2 <;> first | omega | (split at h1 <;> split at h2 <;> first | omega | (split <;> omega))
/-- The bytewise order of labels, the order of lists of labels, the order of names. -/
def cmpB : List UInt8 → List UInt8 → Int := lexC bytC
def cmpR : List (List UInt8) → List (List UInt8) → Int := lexC cmpB
def cmpN (a b : List UInt8) : Int := cmpR (splitL 46 a).reverse (splitL 46 b).reverse
theorem tot_cmpB : TotC cmpB := tot_byt.lex
theorem tot_cmpR : TotC cmpR := tot_cmpB.lex
theorem split_inj {a b : List UInt8} (h : splitL 46 a = splitL 46 b) : a = b := by rw [← join_splitL 46 a, ← join_splitL 46 b, h]
theorem tot_cmpN : TotC cmpN := ⟨fun _ _ => tot_cmpR.vals _ _, fun _ _ => tot_cmpR.swap _ _, fun _ _ h => split_inj (List.reverse_inj.1 (tot_cmpR.eq _ _ h)), fun _ _ _ => tot_cmpR.trans _ _ _⟩
theorem cmpN_eq (a b : List UInt8) : cmpN a b = 0 ↔ a = b := ⟨tot_cmpN.eq a b, fun h => by rw [h]; exact tot_cmpN.refl b⟩
/-- A name and its subdomains. -/
theorem cover_labels {a b : List UInt8} (h : a = b ∨ (46 :: a) <:+ b) : (splitL 46 a).reverse <+: (splitL 46 b).reverse := by
  rcases h with rfl | ⟨t, rfl⟩
  · exact List.prefix_refl _
  · refine ⟨(splitL 46 t).reverse, ?_⟩
    unfold splitL
    rw [splitG_mid, List.reverse_append]
theorem join_app (c : UInt8) : ∀ (p q : List (List UInt8)), p ≠ [] → q ≠ [] → joinL c (p ++ q) = joinL c p ++ c :: joinL c q
  | [], _, h, _ => absurd rfl h
  | [a], q, _, hq => by rw [List.cons_append, List.nil_append, joinL_cons c a q hq]; rfl
  | a :: b :: r, q, _, hq => by
    rw [List.cons_append, joinL_cons c a _ (by simp), join_app c (b :: r) q (by simp) hq, joinL_cons c a (b :: r) (by simp)]
    simp
theorem labels_cover {a b : List UInt8} (h : (splitL 46 a).reverse <+: (splitL 46 b).reverse) : a = b ∨ (46 :: a) <:+ b := by
  obtain ⟨t, ht⟩ := h
  have hb : splitL 46 b = t.reverse ++ splitL 46 a := by
    have := congrArg List.reverse ht
    rw [List.reverse_append, List.reverse_reverse, List.reverse_reverse] at this
    exact this.symm
  cases t with
  | nil => exact .inl (split_inj (by rw [hb]; rfl))
  | cons x r =>
    right
    have hj := join_splitL 46 b
    rw [hb, join_app 46 _ _ (by simp) (List.length_pos_iff.1 (splitL_pos 46 a)), join_splitL] at hj
    exact ⟨_, hj⟩
/-- PinSubdomainsTogether. -/
theorem pin_first {a c : List UInt8} (h : coversL a c = true) : cmpN a c ≤ 0 ∧ (a ≠ c → cmpN a c = -1) := by
  obtain ⟨t, ht⟩ := cover_labels ((covers_iff a c).1 h).2.2
  have e := lex_prefix tot_cmpB (splitL 46 a).reverse t
  rw [ht] at e
  have e' : cmpN a c = if t = [] then 0 else -1 := e
  refine ⟨by rw [e']; split <;> omega, fun hne => ?_⟩
  rw [e', if_neg]
  rintro rfl
  rw [if_pos rfl] at e'
  exact hne ((cmpN_eq a c).1 e')
theorem pin_together {a b c : List UInt8} (h : coversL a c = true) (hb : vnL b = true) (h1 : cmpN a b ≤ 0) (h2 : cmpN b c ≤ 0) : coversL a b = true := by
  have hc := (covers_iff a c).1 h
  obtain ⟨t, ht⟩ := cover_labels hc.2.2
  rw [covers_iff]
  refine ⟨hc.1, (vn_iff b).1 hb, labels_cover (lex_between tot_cmpB _ _ t h1 ?_)⟩
  rw [ht]
  exact h2
end

section
open Go.RowKit

theorem cmpB_eq : ∀ a b : List UInt8, Lib.compareBytes a b = cmpB a b
  | [], [] => rfl
  | [], _ :: _ => rfl
  | _ :: _, [] => rfl
  | x :: a, y :: b => by
    have e : cmpB (x :: a) (y :: b) = if bytC x y = 0 then cmpB a b else bytC x y := rfl
    rw [e, Lib.compareBytes, cmpB_eq a b]
    unfold bytC
    by_cases h1 : x < y
    · rw [if_pos h1, if_pos h1, if_neg (by decide)]
    · rw [if_neg h1, if_neg h1]
      by_cases h2 : y < x
      · rw [if_pos h2, if_pos h2, if_neg (by decide)]
      · rw [if_neg h2, if_neg h2, if_pos rfl]
/-- The last dot. -/
theorem last_dot (s : ByteArray) : (Lib.lastIndexByte s 46 = -1 ∧ splitL 46 (ls s) = [ls s]) ∨ ∃ i : Nat, i < s.size ∧ Lib.lastIndexByte s 46 = i ∧ splitL 46 (ls s) = splitL 46 ((ls s).take i) ++ [(ls s).drop (i + 1)] := by
  have hg : ∀ j (hj : j < s.size), ((s.data[j]!).toNat : Int) = 46 ↔ (ls s)[j]'(by rw [ls_length]; exact hj) = 46 := by
    intro j hj
    have hj' : j < s.data.size := hj
    have e : s.data[j]! = (ls s)[j]'(by rw [ls_length]; exact hj) := by
      rw [getElem!_pos s.data j hj']
      rfl
    rw [e]
    constructor
    · intro h
      exact UInt8.toNat_inj.1 (by rw [show (46 : UInt8).toNat = 46 from rfl]; omega)
    · intro h
      rw [h]
      rfl
  rcases Lib.lastIndexByte_spec s 46 with ⟨e, hn⟩ | ⟨i, hi, e, hc, hn⟩
  · refine .inl ⟨e, splitL_one 46 _ ?_⟩
    intro c hc h46
    obtain ⟨j, hj, rfl⟩ := List.getElem_of_mem hc
    rw [ls_length] at hj
    exact hn j hj ((hg j hj).2 h46)
  · refine .inr ⟨i, hi, e, ?_⟩
    have hi' : i < (ls s).length := by rw [ls_length]; exact hi
    have hfree : noB 46 ((ls s).drop (i + 1)) := by
      intro c hc h46
      obtain ⟨j, hj, rfl⟩ := List.getElem_of_mem hc
      rw [List.length_drop, ls_length] at hj
      rw [List.getElem_drop] at h46
      exact hn (i + 1 + j) (by omega) (by omega) ((hg _ (by omega)).2 h46)
    have e2 : ls s = (ls s).take i ++ 46 :: (ls s).drop (i + 1) := by
      rw [← (hg i hi).1 hc, List.getElem_cons_drop, List.take_append_drop]
    have e3 := splitL_mid 46 ((ls s).take i) ((ls s).drop (i + 1))
    rw [← e2, splitL_one 46 _ hfree] at e3
    exact e3
/-- Where the last label begins, and what stands before it, from the last label to the first. -/
theorem last_lab (s : ByteArray) : ∃ (i : Nat) (R : List (List UInt8)), Lib.lastIndexByte s 46 + 1 = (i : Int) ∧ i ≤ s.size ∧ (splitL 46 (ls s)).reverse = ls (s.extract i s.size) :: R ∧ ((i = 0 ∧ R = []) ∨ (0 < i ∧ R ≠ [] ∧ R = (splitL 46 (ls (s.extract 0 (i - 1)))).reverse)) := by
  rcases last_dot s with ⟨e, hs⟩ | ⟨i, hi, e, hs⟩
  · refine ⟨0, [], by omega, by omega, ?_, .inl ⟨rfl, rfl⟩⟩
    rw [hs, ls_extract, List.drop_zero, Nat.sub_zero, List.take_of_length_le (by rw [ls_length]; exact Nat.le_refl _)]
    rfl
  · refine ⟨i + 1, _, by omega, hi, ?_, .inr ⟨by omega, ?_, rfl⟩⟩
    · have e1 : ls (s.extract (i + 1) s.size) = (ls s).drop (i + 1) := by
        rw [ls_extract]
        exact List.take_of_length_le (by rw [List.length_drop, ls_length]; exact Nat.le_refl _)
      have e2 : ls (s.extract 0 (i + 1 - 1)) = (ls s).take i := by rw [ls_extract, List.drop_zero, Nat.add_sub_cancel, Nat.sub_zero]
      rw [hs, List.reverse_append, e1, e2]
      rfl
    · intro h
      have := splitL_pos 46 (ls (s.extract 0 (i + 1 - 1)))
      rw [List.reverse_eq_nil_iff] at h
      rw [h] at this
      cases this
/-- One step from the end. -/
structure EndStep (a b : ByteArray) (i j : Nat) (o : Int) : Prop where
  now : o ≠ 0 → cmpN (ls a) (ls b) = o
  done : o = 0 → i = 0 ∨ j = 0 → cmpN (ls a) (ls b) = Lib.compareInt a.size b.size
  more : o = 0 → 0 < i → 0 < j → cmpN (ls a) (ls b) = cmpN (ls (a.extract 0 (i - 1))) (ls (b.extract 0 (j - 1)))
theorem end_step (a b : ByteArray) : ∃ i j : Nat, Lib.lastIndexByte a 46 + 1 = (i : Int) ∧ i ≤ a.size ∧ Lib.lastIndexByte b 46 + 1 = (j : Int) ∧ j ≤ b.size ∧
    ∀ o, o = Lib.compareBytes (ls (a.extract i a.size)) (ls (b.extract j b.size)) → EndStep a b i j o ∧ (o = -1 ∨ o = 0 ∨ o = 1) := by
  obtain ⟨i, R, hi, hia, eR, cR⟩ := last_lab a
  obtain ⟨j, S, hj, hjb, eS, cS⟩ := last_lab b
  refine ⟨i, j, hi, hia, hj, hjb, fun o ho => ?_⟩
  rw [cmpB_eq] at ho
  have hc : cmpN (ls a) (ls b) = if o = 0 then cmpR R S else o := by
    unfold cmpN
    rw [eR, eS, ho]
    rfl
  refine ⟨⟨fun h => by rw [hc, if_neg h], fun h h0 => ?_, fun h h1 h2 => ?_⟩, by rw [ho]; exact tot_cmpB.vals _ _⟩
  · rw [hc, if_pos h]
    have el := congrArg List.length (tot_cmpB.eq _ _ (ho ▸ h))
    rw [ls_length, ls_length, ByteArray.size_extract, ByteArray.size_extract] at el
    unfold Lib.compareInt
    rcases cR with ⟨rfl, rfl⟩ | ⟨k1, k2, -⟩
    · rcases cS with ⟨rfl, rfl⟩ | ⟨k3, k4, -⟩
      · rw [if_neg (by omega), if_neg (by omega)]
        rfl
      · rw [if_pos (by omega)]
        cases S with
        | nil => exact absurd rfl k4
        | cons _ _ => rfl
    · rcases cS with ⟨rfl, rfl⟩ | ⟨k3, k4, -⟩
      · rw [if_neg (by omega), if_pos (by omega)]
        cases R with
        | nil => exact absurd rfl k2
        | cons _ _ => rfl
      · omega
  · rw [hc, if_pos h]
    rcases cR with ⟨rfl, -⟩ | ⟨-, -, rfl⟩
    · omega
    · rcases cS with ⟨rfl, -⟩ | ⟨-, -, rfl⟩
      · omega
      · rfl
/-- The lists of labels, read from their ends. -/
theorem rev_drop (X : List (List UInt8)) (k : Nat) (h : k < X.length) : X.reverse.drop k = X.getD (X.length - (k + 1)) [] :: X.reverse.drop (k + 1) := by
  have hk : k < X.reverse.length := by rw [List.length_reverse]; exact h
  rw [List.drop_eq_getElem_cons hk, List.getElem_reverse, List.getD_eq_getElem?_getD, List.getElem?_eq_getElem (by omega), Option.getD_some]
  congr 2
  omega
theorem cmpR_cons (x y : List UInt8) (l m : List (List UInt8)) : cmpR (x :: l) (y :: m) = if cmpB x y = 0 then cmpR l m else cmpB x y := rfl
theorem cmpR_end (X Y : List (List UInt8)) (k : Nat) (h : X.length ≤ k ∨ Y.length ≤ k) (hx : k ≤ X.length) (hy : k ≤ Y.length) : cmpR (X.reverse.drop k) (Y.reverse.drop k) = if X.length < Y.length then -1 else if Y.length < X.length then 1 else 0 := by
  rcases Nat.lt_or_ge k X.length with h1 | h1
  · rw [List.drop_of_length_le (l := Y.reverse) (by rw [List.length_reverse]; omega), rev_drop X k h1, if_neg (by omega), if_pos (by omega)]
    rfl
  · rw [List.drop_of_length_le (l := X.reverse) (by rw [List.length_reverse]; omega)]
    rcases Nat.lt_or_ge k Y.length with h2 | h2
    · rw [rev_drop Y k h2, if_pos (by omega)]
      rfl
    · rw [List.drop_of_length_le (l := Y.reverse) (by rw [List.length_reverse]; omega), if_neg (by omega), if_neg (by omega)]
      rfl
end

section
open Go.RowKit Go.Shelf

def PnVal (F : FuncId) : Prop := ∀ (h : ByteArray) (s : Bool) (x : Int) (w : World), h.size ≤ 1000000000 → Calls Tryz.prog F #[.agg #[.string h, .bool s, .int .i64 x]] w fun e w' => e = .returned (.bool (pinOk ⟨ls h, s, x⟩)) ∧ Below w.heap.size w w'
def PnCmp (F : FuncId) : Prop := ∀ (a b : ByteArray) (w : World), a.size ≤ 1000000000 → b.size ≤ 1000000000 → Calls Tryz.prog F #[.string a, .string b] w fun e w' => e = .returned (.int .i64 (cmpN (ls a) (ls b))) ∧ Below w.heap.size w w'

theorem pnValid_any (hV : HoVn 19) : PnVal 9 := by
  intro h s x w hh
  have c1 := fun W => hV h W hh
  have hP : pinOk ⟨ls h, s, x⟩ = (vnL (ls h) && decide (0 ≤ x) && decide (x ≤ 1099511627776)) := rfl
  generalize vnL (ls h) = q at *
  by_cases h0 : 0 ≤ x
  · rw [decide_eq_true h0, Bool.and_true] at hP
    have d0 := decide_eq_true h0
    by_cases h1 : x ≤ 1099511627776
    · rw [decide_eq_true h1, Bool.and_true] at hP
      have d1 := decide_eq_true h1
      have HP := Lib.hid hP
      clear hP
      go_enter Tryz.func9, Tryz.ntmps9
      go_wp2_with (first | (refine wpList_box_arr _ rfl 1 rfl _ _ rfl _ #[.string h, .bool s, .int .i64 x] (by exact rfl) (by exact rfl) ?_; intro W1 g1 hg1 hl1 hR1 hG1; obtain ⟨x0, x1, x2⟩ := RowPn.cells hR1))
      refine (c1 _).mono ?_
      rintro e w1 ⟨rfl, hb⟩
      have hb1 := below_row0 (Below.refl w.heap.size w) hG1 (Nat.le_refl _)
      go_wp2
      go_ret
      exact ⟨ret_bool HP.out.symm, hb1.trans (hb.mono hb1.size)⟩
    · rw [decide_eq_false h1, Bool.and_false] at hP
      have d1 := decide_eq_false h1
      have HP := Lib.hid hP
      clear hP
      go_enter Tryz.func9, Tryz.ntmps9
      go_wp2_with (first | (refine wpList_box_arr _ rfl 1 rfl _ _ rfl _ #[.string h, .bool s, .int .i64 x] (by exact rfl) (by exact rfl) ?_; intro W1 g1 hg1 hl1 hR1 hG1; obtain ⟨x0, x1, x2⟩ := RowPn.cells hR1))
      have hb1 := below_row0 (Below.refl w.heap.size w) hG1 (Nat.le_refl _)
      go_ret
      exact ⟨ret_bool HP.out.symm, hb1⟩
  · rw [decide_eq_false h0, Bool.and_false, Bool.false_and] at hP
    have d0 := decide_eq_false h0
    have HP := Lib.hid hP
    clear hP
    go_enter Tryz.func9, Tryz.ntmps9
    go_wp2_with (first | (refine wpList_box_arr _ rfl 1 rfl _ _ rfl _ #[.string h, .bool s, .int .i64 x] (by exact rfl) (by exact rfl) ?_; intro W1 g1 hg1 hl1 hR1 hG1; obtain ⟨x0, x1, x2⟩ := RowPn.cells hR1))
    have hb1 := below_row0 (Below.refl w.heap.size w) hG1 (Nat.le_refl _)
    go_ret
    exact ⟨ret_bool HP.out.symm, hb1⟩
end

section
open Go.RowKit Go.Shelf

theorem quiet_pn {P : Program} {f : FuncId} {args : Array Value} {w : World} {n : Nat} {v : Value} (h : Calls P f args (w.drewN n) fun e w' => e = .returned v ∧ w' = w.drewN n) :
    Calls P f args (w.drewN n) fun e w' => e = .returned v ∧ ∃ m, w' = w.drewN m := h.mono fun _ _ hh => ⟨hh.1, n, hh.2⟩

set_option maxRecDepth 20000 in
set_option maxHeartbeats 2000000 in
theorem pnCmp_any : PnCmp 12 := by
  intro a b w ha hb
  go_enter Tryz.func12, Tryz.ntmps12
  go_wp2
  go_step3
  go_wp2
  go_step3
  go_wp2
  go_loopg [0, 1] a.size (fun g x y wr => ∃ (p q : ByteArray), g = p.size ∧ x = .string p ∧ y = .string q ∧ p.size ≤ 1000000000 ∧ q.size ≤ 1000000000 ∧ Hid (cmpN (ls a) (ls b) = cmpN (ls p) (ls q)) ∧ Hid (Below w.heap.size w wr))
  case atStart => exact ⟨a, b, rfl, rfl, rfl, ha, hb, Lib.hid rfl, Lib.hid (Below.refl _ _)⟩
  case round =>
    obtain ⟨p, q, hg, rfl, rfl, hp, hq, HR, HB⟩ := hrel
    have HG := Lib.hid hg
    clear hg
    obtain ⟨i, j, hi, hia, hj, hjb, hst⟩ := end_step p q
    have c1 := fun W => Any.strings_LastIndexByte Tryz.lays149 p 46 (by omega) W
    have c2 := fun W => Any.strings_LastIndexByte Tryz.lays149 q 46 (by omega) W
    obtain ⟨x, hx⟩ : ∃ x, x = Lib.lastIndexByte p 46 := ⟨_, rfl⟩
    obtain ⟨y, hy⟩ : ∃ y, y = Lib.lastIndexByte q 46 := ⟨_, rfl⟩
    rw [← hx] at c1 hi
    rw [← hy] at c2 hj
    have c3 := fun W => Any.strings_Compare Tryz.lays106 (p.extract i p.size) (q.extract j q.size) W
    obtain ⟨o, ho⟩ : ∃ o, o = Lib.compareBytes (ls (p.extract i p.size)) (ls (q.extract j q.size)) := ⟨_, rfl⟩
    obtain ⟨hE, hov⟩ := hst o ho
    have hO : Lib.compareBytes (p.extract i p.size).data.toList (q.extract j q.size).data.toList = o := ho.symm
    rw [hO] at c3
    have HE := Lib.hid hE
    clear hx hy ho hO hE hst
    go_wp2_with fail
    refine (c1 _).mono ?_
    rintro e w' ⟨rfl, rfl⟩
    go_wp2_with fail
    refine (c2 _).mono ?_
    rintro e w' ⟨rfl, rfl⟩
    clear c1 c2
    have hx0 : -1 ≤ x := by omega
    have hx1 : x ≤ 1000000000 := by omega
    have hy0 : -1 ≤ y := by omega
    have hy1 : y ≤ 1000000000 := by omega
    have i0 : (0 : Int) ≤ (i : Int) := by omega
    have j0 : (0 : Int) ≤ (j : Int) := by omega
    have i1 : (i : Int) ≤ (p.size : Int) := by omega
    have j1 : (j : Int) ≤ (q.size : Int) := by omega
    go_wp2_with fail
    go_quiet ((go_at_call 24; exact quiet_pn (c3 _)))
    clear c3
    have HBd : Below w.heap.size w (w'.drewN nq) := by first | exact below_drewN HB.out _ | exact HB.out.trans (below_drewN _ _)
    have HBd := Lib.hid HBd
    generalize w'.drewN nq = W at *
    have c4 := fun W => Any.cmp_Compare_int Tryz.lays122 (p.size : Int) (q.size : Int) W
    obtain ⟨v, hv⟩ : ∃ v, v = Lib.compareInt (p.size : Int) (q.size : Int) := ⟨_, rfl⟩
    rw [← hv] at c4
    by_cases ho : o = 0
    · subst ho
      by_cases hi0 : i = 0
      · have HD := Lib.hid (HE.out.done rfl (.inl hi0))
        have hxn : x = -1 := by omega
        subst hxn
        clear hov hi hi0 hx0 hx1
        go_wp2_with (go_at_call 25; refine (c4 _).mono ?_; rintro e w5 ⟨rfl, rfl⟩)
        first | go_ret | (rw [Exit.noGoto_ret]; go_ret) | (go_step3; go_wp2; go_ret)
        exact ⟨ret_int (by rw [HR.out, HD.out]), HBd.out⟩
      · by_cases hj0 : j = 0
        · have HD := Lib.hid (HE.out.done rfl (.inr hj0))
          have hyn : y = -1 := by omega
          subst hyn
          have d1 : decide (x < 0) = false := decide_eq_false (by omega)
          have d1' : ¬ x < 0 := by omega
          clear hov hj hj0 hy0 hy1 hi0 hi hx0 hx1
          go_wp2_with (go_at_call 25; refine (c4 _).mono ?_; rintro e w5 ⟨rfl, rfl⟩)
          first | go_ret | (rw [Exit.noGoto_ret]; go_ret) | (go_step3; go_wp2; go_ret)
          exact ⟨ret_int (by rw [HR.out, HD.out]), HBd.out⟩
        · obtain ⟨s, rfl⟩ : ∃ s : Nat, i = s + 1 := ⟨i - 1, by omega⟩
          obtain ⟨t, rfl⟩ : ∃ t : Nat, j = t + 1 := ⟨j - 1, by omega⟩
          obtain rfl : x = (s : Int) := by omega
          obtain rfl : y = (t : Int) := by omega
          have HM := Lib.hid (HE.out.more rfl (by omega) (by omega))
          have s1 : s ≤ p.size := by omega
          have t1 : t ≤ q.size := by omega
          have HS := Lib.hid hia
          have HT := Lib.hid hjb
          clear hov hj hj0 hy0 hi0 hi hx0 c4 hia hjb i0 j0 i1 j1
          go_wp2_with fail
          go_quiet (fail)
          go_wp2
          go_roundg s
          case rel => exact ⟨p.extract 0 s, q.extract 0 t, by simp; omega, rfl, rfl, by rw [ByteArray.size_extract]; omega, by rw [ByteArray.size_extract]; omega, Lib.hid (by rw [HR.out, HM.out]; rfl), Lib.hid (by first | exact below_drewN HBd.out _ | exact HBd.out.trans (below_drewN _ _))⟩
          case measure => have := HS.out; rw [HG.out]; omega
    · have HD := Lib.hid (HE.out.now ho)
      have ho1 : (o != 0) = true := by simpa using ho
      clear hov hi hj hx0 hx1 hy0 hy1
      go_wp2
      first | go_ret | (rw [Exit.noGoto_ret]; go_ret) | (go_step3; go_wp2; go_ret)
      exact ⟨ret_int (by rw [HR.out, HD.out]), HBd.out⟩
end

section
open Go.RowKit

/-- Equal as lists of bytes. -/
def eqL (l m : List UInt8) : Bool := decide (l = m)
set_option maxHeartbeats 400000 in
theorem bytes_any (A1 A2 : Option Addr) (n1 c1 n2 c2 B : Nat) (l m : List UInt8) (w : World) (h1 : Has w B A1 n1 (l.map bv)) (h2 : Has w B A2 n2 (m.map bv)) :
    Calls Tryz.prog 11 #[.slice A1 n1 c1, .slice A2 n2 c2] w fun e w' => e = .returned (.bool (eqL l m)) ∧ w = w' := by
  have e1 := str_has w A1 n1 c1 B l h1
  have e2 := str_has w A2 n2 c2 B m h2
  have HE : Hid (((bs l).toList == (bs m).toList) = eqL l m) := by
    show _ = _
    rw [toList_ls, toList_ls, ls_bs, ls_bs]
    unfold eqL
    by_cases h : l = m
    · subst h; simp
    · rw [decide_eq_false h, beq_eq_false_iff_ne]; exact h
  clear h1 h2
  go_enter Tryz.func11, Tryz.ntmps11
  go_wp2
  go_ret
  exact ⟨ret_bool (by rw [← HE.out]), rfl⟩
end

section
open Go.RowKit

/-- make([]byte, 0, c). -/
theorem wpList_make_room (w : World) {ops : Array Oper} {rest : List Oper} {o : Oper} {a : Act} {Q : Exit → Act → World → Prop}
    (hg : o.guard = none) (l c : Operand) (hop : o.op = Op.makeSlice 24 l c) (n : Int) (hl : a.eval l = .int .i64 0) (hc : a.eval c = .int .i64 n) (h0 : 0 ≤ n) (hn : n ≤ 4000000000)
    (h : ∀ v' w', w'.ownsRow w.heap.size 5 1 v' 0 [] → Below w.heap.size w w' → wpList Tryz.prog ops Q rest (a.put o.dst v') w') : wpList Tryz.prog ops Q (o :: rest) a w := by
  refine wpList_plain hg fun K hK' => ?_
  obtain ⟨i, hi, hz0, hz1, hz2⟩ := info_parts infoU8
  have hrun := run_make (P := Tryz.prog) w 24 5 i (.int .u8 0) tyBs hi hz0 .i64 .i64 0 n (by omega) (by omega) (by rw [hz2]; omega) (by omega)
  rw [hz1, Nat.mul_one] at hrun
  have hm : madeCells (Value.int .u8 0).cells n.toNat = zeros n.toNat := made_u8 _
  rw [hm] at hrun
  have := h (.slice (some ⟨w.heap.size, 0, none⟩) 0 n.toNat) (w.alloc (.cells (zeros n.toNat) 5))
    ⟨rfl, .inr ⟨w.heap.size, n.toNat, zeros n.toNat, rfl, Nat.le_refl _, by show (w.heap.push _)[w.heap.size]? = _; simp, Nat.zero_le _, by unfold maxLen; omega, by simp [zeros], by simp⟩⟩
    ((Below.refl _ _).alloc (Nat.le_refl _) _)
  unfold Oper.wp
  simp [execOp, hop, hl, hc, hrun, Result.andThen]
  exact hK' _ _ this

/-- A part of a slice. -/
theorem Has.part {w : World} {B n b off : Nat} {xs : List Value} (h : Has w B (some ⟨b, off, none⟩) n xs) (s k : Nat) (hs : s + k ≤ n) : Has w B (some ⟨b, off + s, none⟩) k ((xs.drop s).take k) :=
  ⟨by have := h.1; simp; omega, fun h0 => by
    obtain ⟨b', off', e, hb, hc⟩ := h.2 (by omega)
    injection e with e
    injection e with e1 e2 _
    subst e1 e2
    refine ⟨b, off + s, rfl, hb, fun j hj => ?_⟩
    have hj' : j < k := by simp at hj; omega
    have := hc (s + j) (by have := h.1; omega)
    rw [← Nat.add_assoc] at this
    rw [this]
    simp⟩
end

end Go.Proofs.YthoolifdmemceaaGreatDoor
