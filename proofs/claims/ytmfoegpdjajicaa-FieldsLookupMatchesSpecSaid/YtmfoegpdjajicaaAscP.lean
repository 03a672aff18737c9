/-
  Plain mathematics of package ascii: no program.
-/
import Derived.Test.YtmfoegpdjajicaaBase
namespace Go.Proofs.Ytmfoegpdjajicaa
open Go.RowKit

def blankB (b : Int) : Bool := b == 32 || b == 9
def spaceB (b : Int) : Bool := blankB b || b == 10 || b == 12 || b == 13
def upperB (b : Int) : Bool := decide (65 ≤ b) && decide (b ≤ 90)
def digitB (b : Int) : Bool := decide (48 ≤ b) && decide (b ≤ 57)
def lowI (b : Int) : Int := bif upperB b then b + 32 else b
def markB (b : Int) : Bool := b == 33 || b == 35 || b == 36 || b == 37 || b == 38 || b == 39 || b == 42 || b == 43 || b == 45 || b == 46 || b == 94 || b == 95 || b == 96 || b == 124 || b == 126
def tokenB (b : Int) : Bool := decide (97 ≤ b) && decide (b ≤ 122) || upperB b || digitB b || markB b

def blankU (c : UInt8) : Bool := blankB (c.toNat : Int)
def spaceU (c : UInt8) : Bool := spaceB (c.toNat : Int)
def digitU (c : UInt8) : Bool := digitB (c.toNat : Int)
def lowU (c : UInt8) : UInt8 := UInt8.ofNat (lowI (c.toNat : Int)).toNat

theorem lowI_range (b : Int) (h0 : 0 ≤ b) (h1 : b ≤ 255) : 0 ≤ lowI b ∧ lowI b ≤ 255 := by
  unfold lowI upperB
  by_cases h : 65 ≤ b <;> by_cases h2 : b ≤ 90 <;> simp [h, h2] <;> omega
theorem lowU_toNat (c : UInt8) : ((lowU c).toNat : Int) = lowI (c.toNat : Int) := by
  have := byte_lt c
  have h := lowI_range (c.toNat : Int) (by omega) (by omega)
  unfold lowU
  rw [UInt8.toNat_ofNat']
  omega
theorem lowI_lowI (b : Int) : lowI (lowI b) = lowI b := by
  unfold lowI upperB
  by_cases h : 65 ≤ b <;> by_cases h2 : b ≤ 90 <;> simp [h, h2]
  have h3 : ¬ (b + 32 ≤ 90) := by omega
  simp [h3]
theorem lowU_lowU (c : UInt8) : lowU (lowU c) = lowU c := by
  apply UInt8.toNat_inj.1
  have h := lowU_toNat (lowU c)
  rw [lowU_toNat c, lowI_lowI] at h
  have := lowU_toNat c
  omega

def lowL (l : List UInt8) : List UInt8 := l.map lowU
def lowS (s : ByteArray) : ByteArray := bs (lowL (ls s))
theorem lowL_length (l : List UInt8) : (lowL l).length = l.length := by simp [lowL]
theorem lowS_size (s : ByteArray) : (lowS s).size = s.size := by rw [lowS, bs_size, lowL_length, ls_length]
theorem lowL_lowL (l : List UInt8) : lowL (lowL l) = lowL l := by
  simp only [lowL, List.map_map]
  congr 1
  funext c
  exact lowU_lowU c
theorem lowS_lowS (s : ByteArray) : lowS (lowS s) = lowS s := by unfold lowS; rw [ls_bs, lowL_lowL]
theorem lowL_append (a b : List UInt8) : lowL (a ++ b) = lowL a ++ lowL b := by simp [lowL]
theorem lowS_append (a b : ByteArray) : lowS (a ++ b) = lowS a ++ lowS b := by
  apply ls_inj
  simp only [lowS, ls_bs, ls_append, lowL_append]

def foldB (a b : ByteArray) : Bool := lowL (ls a) == lowL (ls b)
theorem foldB_iff (a b : ByteArray) : foldB a b = true ↔ lowS a = lowS b := by
  unfold foldB lowS
  rw [beq_iff_eq]
  exact ⟨fun h => by rw [h], fun h => by rw [← ls_bs (lowL (ls a)), h, ls_bs]⟩

/-- The string without the blanks at both ends. -/
def trimL (l : List UInt8) : List UInt8 := ((l.dropWhile blankU).reverse.dropWhile blankU).reverse
def trimS (s : ByteArray) : ByteArray := bs (trimL (ls s))

def digitsB (s : ByteArray) : Bool := (ls s).all digitU && !(ls s).isEmpty

/-- The words: the maximal runs of bytes that are no spaces. 'cur' is the word that is being read. -/
def wordsFrom : List UInt8 → List UInt8 → List (List UInt8)
  | [], cur => if cur.isEmpty then [] else [cur]
  | c :: l, cur => if spaceU c then (if cur.isEmpty then wordsFrom l [] else cur :: wordsFrom l []) else wordsFrom l (cur ++ [c])
def wordsL (l : List UInt8) : List (List UInt8) := wordsFrom l []

theorem lowL_take_succ (s : ByteArray) (k : Nat) (h : k < s.size) : (lowL (ls s)).take (k + 1) = (lowL (ls s)).take k ++ [lowU s[k]] := by
  have hl : k < (lowL (ls s)).length := by rw [lowL_length, ls_length]; exact h
  rw [List.take_succ_eq_append_getElem hl]
  simp only [lowL, List.getElem_map, ls_getE s k h]
  rfl
theorem foldB_all (a b : ByteArray) (h : a.size = b.size) (ht : (lowL (ls a)).take a.size = (lowL (ls b)).take a.size) : foldB a b = true := by
  unfold foldB
  rw [beq_iff_eq]
  have h1 : (lowL (ls a)).take a.size = lowL (ls a) := List.take_of_length_le (by rw [lowL_length, ls_length]; exact Nat.le_refl _)
  have h2 : (lowL (ls b)).take a.size = lowL (ls b) := List.take_of_length_le (by rw [lowL_length, ls_length, h]; exact Nat.le_refl _)
  rw [← h1, ht, h2]

theorem digits_no (s : ByteArray) (k : Nat) (h : k < s.size) (hd : digitU s[k] = false) : digitsB s = false := by
  unfold digitsB
  have : (ls s).all digitU = false := by
    rw [List.all_eq_false]
    exact ⟨s[k], List.mem_of_getElem? (ls_get s k h), by rw [hd]; decide⟩
  rw [this]; rfl
theorem digits_yes (s : ByteArray) (h : ((ls s).take s.size).all digitU = true) : digitsB s = !(ls s).isEmpty := by
  rw [take_ls_all] at h
  unfold digitsB
  rw [h]; rfl
theorem take_all_succ (p : UInt8 → Bool) (s : ByteArray) (k : Nat) (h : k < s.size) (ht : ((ls s).take k).all p = true) (hp : p s[k] = true) : ((ls s).take (k + 1)).all p = true := by
  rw [take_ls_succ s k h, List.all_append, ht]
  simp [hp]

theorem drop_all_succ (p : UInt8 → Bool) (s : ByteArray) (k : Nat) (h : k < s.size) (ht : ((ls s).drop (k + 1)).all p = true) (hp : p s[k] = true) : ((ls s).drop k).all p = true := by
  rw [drop_ls_cons s k h, List.all_cons, hp, ht]
  rfl

theorem dropWhile_all {α : Type} (p : α → Bool) (a b : List α) (ha : a.all p = true) (hb : b = [] ∨ ∃ x r, b = x :: r ∧ p x = false) : (a ++ b).dropWhile p = b := by
  induction a with
  | nil =>
    rcases hb with rfl | ⟨x, r, rfl, hx⟩
    · rfl
    · simp [hx]
  | cons c a ih =>
    simp only [List.all_cons, Bool.and_eq_true] at ha
    simp [ha.1, ih ha.2]
/-- What is cut off at both ends is blank, and what is left begins and ends with no blank: then it is the trimmed list. -/
theorem trim_of (l a m c : List UInt8) (he : l = a ++ m ++ c) (ha : a.all blankU = true) (hc : c.all blankU = true)
    (h1 : m = [] ∨ ∃ x r, m = x :: r ∧ blankU x = false) (h2 : m = [] ∨ ∃ x r, m = r ++ [x] ∧ blankU x = false) : trimL l = m := by
  subst he
  unfold trimL
  by_cases hm : m = []
  · subst hm
    have : (a ++ [] ++ c) = (a ++ c) ++ [] := by simp
    rw [this, dropWhile_all blankU (a ++ c) [] (by simp [ha, hc]) (.inl rfl)]
    rfl
  · have h1' : ∃ x r, m = x :: r ∧ blankU x = false := by rcases h1 with h | h; exact absurd h hm; exact h
    have h2' : ∃ x r, m = r ++ [x] ∧ blankU x = false := by rcases h2 with h | h; exact absurd h hm; exact h
    obtain ⟨x, r, rfl, hx⟩ := h1'
    obtain ⟨y, q, hy, hyb⟩ := h2'
    rw [List.append_assoc, dropWhile_all blankU a (x :: r ++ c) ha (.inr ⟨x, r ++ c, rfl, hx⟩), List.reverse_append]
    rw [dropWhile_all blankU c.reverse _ (by simp at hc ⊢; exact hc) (.inr ⟨y, q.reverse, by rw [hy]; simp, hyb⟩), List.reverse_reverse]

theorem trimS_of (s : ByteArray) (k m : Nat) (hkm : k ≤ m) (hm : m ≤ s.size) (hk : ((ls s).take k).all blankU = true) (hd : ((ls s).drop m).all blankU = true)
    (h1 : k = m ∨ ∃ h : k < s.size, blankU s[k] = false) (h2 : k = m ∨ ∃ h : m - 1 < s.size, blankU s[m - 1] = false) : trimS s = bs (((ls s).drop k).take (m - k)) := by
  unfold trimS
  congr 1
  have hlen := ls_length s
  refine trim_of (ls s) ((ls s).take k) _ ((ls s).drop m) ?_ hk hd ?_ ?_
  · have e : (ls s).drop m = ((ls s).drop k).drop (m - k) := by rw [List.drop_drop]; congr 1; omega
    rw [e, List.append_assoc, List.take_append_drop, List.take_append_drop]
  · rcases h1 with rfl | ⟨h, hb⟩
    · left; simp
    · rcases Nat.eq_zero_or_pos (m - k) with h0 | h0
      · left; rw [h0]; rfl
      · right
        rw [drop_ls_cons s k h]
        refine ⟨s[k], ((ls s).drop (k + 1)).take (m - k - 1), ?_, hb⟩
        rw [show m - k = (m - k - 1) + 1 by omega]
        rfl
  · rcases h2 with rfl | ⟨h, hb⟩
    · left; simp
    · rcases Nat.eq_zero_or_pos (m - k) with h0 | h0
      · left; rw [h0]; rfl
      · right
        refine ⟨s[m - 1], ((ls s).drop k).take (m - k - 1), ?_, hb⟩
        rw [show m - k = (m - k - 1) + 1 by omega, List.take_succ_eq_append_getElem (by rw [List.length_drop, hlen]; omega)]
        congr 1
        rw [List.getElem_drop]
        simp only [List.cons.injEq, and_true]
        have : k + (m - k - 1 + 1 - 1) = m - 1 := by omega
        simp only [show k + (m - k - 1) = m - 1 by omega]
        exact ls_getE s (m - 1) h _

/-! Words. -/
def wordsS (s : ByteArray) : List ByteArray := (wordsL (ls s)).map bs
def sub (s : ByteArray) (a b : Nat) : List UInt8 := ((ls s).drop a).take (b - a)
theorem sub_self (s : ByteArray) (a : Nat) : sub s a a = [] := by simp [sub]
theorem sub_succ (s : ByteArray) (a b : Nat) (hab : a ≤ b) (h : b < s.size) : sub s a (b + 1) = sub s a b ++ [s[b]] := by
  unfold sub
  rw [show b + 1 - a = (b - a) + 1 by omega, List.take_succ_eq_append_getElem (by rw [List.length_drop, ls_length]; omega)]
  congr 1
  simp only [List.cons.injEq, and_true, List.getElem_drop]
  simp only [show a + (b - a) = b by omega]
  exact ls_getE s b h _
theorem sub_length (s : ByteArray) (a b : Nat) (hb : b ≤ s.size) : (sub s a b).length = b - a := by
  unfold sub; rw [List.length_take, List.length_drop, ls_length]; omega
theorem sub_extract (s : ByteArray) (a b : Nat) : s.extract a b = bs (sub s a b) := by
  apply ls_inj; rw [ls_extract, ls_bs]; rfl
theorem isEmpty_false {l : List UInt8} (h : 0 < l.length) : l.isEmpty = false := by cases l <;> simp at h ⊢
/-- The relation of a scan for words: 'acc' has been found, 'cur' is being read, i bytes are read. -/
def WordsAt (s : ByteArray) (acc : List (List UInt8)) (cur : List UInt8) (i : Nat) : Prop := acc ++ wordsFrom ((ls s).drop i) cur = wordsL (ls s)
theorem wordsAt_start (s : ByteArray) : WordsAt s [] [] 0 := rfl
theorem wordsAt_byte {s : ByteArray} {acc cur} {i : Nat} (h : WordsAt s acc cur i) (hi : i < s.size) (hc : spaceU s[i] = false) : WordsAt s acc (cur ++ [s[i]]) (i + 1) := by
  unfold WordsAt at h ⊢
  rw [drop_ls_cons s i hi, wordsFrom, hc] at h
  simpa using h
theorem wordsAt_skip {s : ByteArray} {acc} {i : Nat} (h : WordsAt s acc [] i) (hi : i < s.size) (hc : spaceU s[i] = true) : WordsAt s acc [] (i + 1) := by
  unfold WordsAt at h ⊢
  rw [drop_ls_cons s i hi, wordsFrom, hc] at h
  simpa using h
theorem wordsAt_word {s : ByteArray} {acc cur} {i : Nat} (h : WordsAt s acc cur i) (hi : i < s.size) (hc : spaceU s[i] = true) (hl : 0 < cur.length) : WordsAt s (acc ++ [cur]) [] (i + 1) := by
  unfold WordsAt at h ⊢
  rw [drop_ls_cons s i hi, wordsFrom, hc, isEmpty_false hl] at h
  simpa using h
/-- The word ends before a space, which is still to be read. -/
theorem wordsAt_stop {s : ByteArray} {acc cur} {i : Nat} (h : WordsAt s acc cur i) (hi : i < s.size) (hc : spaceU s[i] = true) (hl : 0 < cur.length) : WordsAt s (acc ++ [cur]) [] i := by
  have h2 := wordsAt_word h hi hc hl
  unfold WordsAt at h2 ⊢
  rw [drop_ls_cons s i hi, wordsFrom, hc]
  simpa using h2
theorem wordsAt_last {s : ByteArray} {acc cur} {i : Nat} (h : WordsAt s acc cur i) (hi : s.size ≤ i) (hl : 0 < cur.length) : acc ++ [cur] = wordsL (ls s) := by
  unfold WordsAt at h
  rw [List.drop_eq_nil_of_le (by rw [ls_length]; exact hi), wordsFrom, isEmpty_false hl] at h
  simpa using h
theorem wordsAt_end {s : ByteArray} {acc} {i : Nat} (h : WordsAt s acc [] i) (hi : s.size ≤ i) : acc = wordsL (ls s) := by
  unfold WordsAt at h
  rw [List.drop_eq_nil_of_le (by rw [ls_length]; exact hi), wordsFrom] at h
  simpa using h
theorem wordsAt_of {s : ByteArray} {acc} {i : Nat} (h : acc = wordsL (ls s)) (hi : s.size ≤ i) : WordsAt s acc [] i := by
  unfold WordsAt
  rw [List.drop_eq_nil_of_le (by rw [ls_length]; exact hi), wordsFrom, h]
  simp

end Go.Proofs.Ytmfoegpdjajicaa
