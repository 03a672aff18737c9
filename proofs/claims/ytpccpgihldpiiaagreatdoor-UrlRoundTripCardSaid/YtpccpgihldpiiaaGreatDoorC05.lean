/-
Superdomains and covering in plain words, and their laws. No program.
The text of an address, step by step: no program.
Lists of bytes cut at the first byte of a kind. No program.
URLs in plain words: what parsing answers, the text, the upgrade, and their laws. No program.
-/
import Derived.Test.YtpccpgihldpiiaaGreatDoorC04
import Derived.Test.YtpccpgihldpiiaaGreatDoorC00
import Derived.Lib.Bytealg
namespace Go.Proofs.YtpccpgihldpiiaaGreatDoor
section
open Go.RowKit

def coversL (s n : List UInt8) : Bool := vnL s && vnL n && (decide (s = n) || (46 :: s).isSuffixOf n)
theorem covers_iff (s n : List UInt8) : coversL s n = true ↔ Vn s ∧ Vn n ∧ (s = n ∨ (46 :: s) <:+ n) := by
  unfold coversL
  rw [Bool.and_eq_true, Bool.and_eq_true, vn_iff, vn_iff, Bool.or_eq_true, decide_eq_true_iff, List.isSuffixOf_iff_suffix, and_assoc]
theorem covers_refl (s : List UInt8) : coversL s s = vnL s := by
  rw [Bool.eq_iff_iff, covers_iff, vn_iff]
  exact ⟨fun h => h.1, fun h => ⟨h, h, .inl rfl⟩⟩
theorem covers_anti {a b : List UInt8} (h1 : coversL a b = true) (h2 : coversL b a = true) : a = b := by
  rw [covers_iff] at h1 h2
  rcases h1.2.2 with h | h
  · exact h
  · rcases h2.2.2 with h' | h'
    · exact h'.symm
    · have e1 := h.length_le
      have e2 := h'.length_le
      simp at e1 e2
      omega
theorem suffix_of_cons {x : UInt8} {a b : List UInt8} (h : a <:+ b) : a <:+ x :: b := by
  obtain ⟨t, rfl⟩ := h
  exact ⟨x :: t, rfl⟩
theorem covers_trans {a b c : List UInt8} (h1 : coversL a b = true) (h2 : coversL b c = true) : coversL a c = true := by
  rw [covers_iff] at h1 h2 ⊢
  refine ⟨h1.1, h2.2.1, ?_⟩
  rcases h1.2.2 with rfl | h
  · exact h2.2.2
  · rcases h2.2.2 with rfl | h'
    · exact .inr h
    · exact .inr ((suffix_of_cons h).trans h')
theorem covers_comp {a b c : List UInt8} (h1 : coversL a c = true) (h2 : coversL b c = true) : coversL a b = true ∨ coversL b a = true := by
  have h1' := h1
  have h2' := h2
  rw [covers_iff] at h1 h2
  rcases h1.2.2 with rfl | h
  · exact .inr h2'
  · rcases h2.2.2 with rfl | h'
    · exact .inl h1'
    · rcases List.suffix_or_suffix_of_suffix h h' with k | k
      · rcases List.suffix_cons_iff.1 k with e | k
        · injection e with _ e
          subst e
          exact .inl ((covers_iff _ _).2 ⟨h1.1, h2.1, .inl rfl⟩)
        · exact .inl ((covers_iff _ _).2 ⟨h1.1, h2.1, .inr k⟩)
      · rcases List.suffix_cons_iff.1 k with e | k
        · injection e with _ e
          subst e
          exact .inr ((covers_iff _ _).2 ⟨h2.1, h1.1, .inl rfl⟩)
        · exact .inr ((covers_iff _ _).2 ⟨h2.1, h1.1, .inr k⟩)

/-! ### superdomains -/
theorem splitG_mid (c : UInt8) (r : List UInt8) : ∀ (x cur : List UInt8), splitG c (x ++ c :: r) cur = splitG c x cur ++ splitG c r []
  | [], cur => by simp [splitG]
  | b :: x, cur => by
    rw [List.cons_append, splitG, splitG]
    split
    · rw [splitG_mid c r x []]; rfl
    · exact splitG_mid c r x _
theorem splitL_mid (c : UInt8) (x r : List UInt8) : splitL c (x ++ c :: r) = splitL c x ++ splitL c r := splitG_mid c r x []
theorem splitL_ne (c : UInt8) (l : List UInt8) : splitL c l ≠ [] := splitG_ne c l []
theorem Vn.suffix {x r : List UInt8} (h : Vn (x ++ 46 :: r)) : Vn r := by
  have hr : ∀ m, r = m ++ [46] → False := by
    rintro m rfl
    refine split_dot_lab (m := x ++ 46 :: m) ?_
    have := h.lab
    rw [show x ++ 46 :: (m ++ [46]) = x ++ 46 :: m ++ [46] by simp] at this
    exact this
  have hlast : r.getLast? ≠ some 46 := fun h2 => by
    obtain ⟨m, hm⟩ := List.getLast?_eq_some_iff.1 h2
    exact hr m hm
  refine ⟨?_, ?_, ?_, ?_⟩
  · rintro rfl
    exact split_dot_lab h.lab
  · have := h.len
    simp at this
    omega
  · rw [← h.num]
    unfold numericL
    rw [parts_undot, parts_undot, undot_self hlast, undot_self h.last, splitL_mid]
    congr 1
    rw [List.getLastD_eq_getLast?, List.getLastD_eq_getLast?, List.getLast?_append]
    cases hs : (splitL 46 r).getLast? with
    | none => exact absurd (List.getLast?_eq_none_iff.1 hs) (splitL_ne 46 r)
    | some y => rfl
  · intro y hy
    refine h.lab y ?_
    rw [splitL_mid]
    exact List.mem_append_right _ hy
def supGo : List UInt8 → List (List UInt8)
  | [] => []
  | b :: r => if b = 46 ∧ vnL r = true then r :: supGo r else supGo r
def supersL (n : List UInt8) : List (List UInt8) := if vnL n = true then supGo n else []
def labelsL (n : List UInt8) : Nat := if vnL n = true then (splitL 46 n).length else 0
def ChainS : List UInt8 → List (List UInt8) → Prop
  | _, [] => True
  | prev, x :: t => (46 :: x) <:+ prev ∧ vnL x = true ∧ ChainS x t
theorem sup_chain : ∀ (l prev : List UInt8), l <:+ prev → ChainS prev (supGo l)
  | [], _, _ => trivial
  | b :: r, prev, h => by
    rw [supGo]
    split
    · rename_i hc
      obtain ⟨rfl, hv⟩ := hc
      exact ⟨h, hv, sup_chain r r (List.suffix_refl r)⟩
    · exact sup_chain r prev ((List.suffix_cons b r).trans h)
theorem ChainS.at_ : ∀ {L : List (List UInt8)} {prev : List UInt8}, ChainS prev L → ∀ (k : Nat) (hk : k < L.length), (46 :: L[k]) <:+ (if k = 0 then prev else L.getD (k - 1) []) ∧ vnL L[k] = true
  | [], _, _, k, hk => absurd hk (by simp)
  | x :: t, prev, h, 0, _ => ⟨h.1, h.2.1⟩
  | x :: t, prev, h, k + 1, hk => by
    have h1 := ChainS.at_ h.2.2 k (by simpa using hk)
    refine ⟨?_, h1.2⟩
    rw [if_neg (by omega), show k + 1 - 1 = k from rfl]
    have h2 := h1.1
    cases k with
    | zero => exact h2
    | succ j => exact h2
theorem sup_suffix : ∀ (l : List UInt8), ∀ x ∈ supGo l, (46 :: x) <:+ l ∧ vnL x = true
  | [], x, h => by cases h
  | b :: r, x, h => by
    rw [supGo] at h
    split at h
    · rename_i hc
      obtain ⟨rfl, hv⟩ := hc
      rcases List.mem_cons.1 h with rfl | h
      · exact ⟨List.suffix_refl _, hv⟩
      · have := sup_suffix r x h
        exact ⟨suffix_of_cons this.1, this.2⟩
    · have := sup_suffix r x h
      exact ⟨suffix_of_cons this.1, this.2⟩
theorem splitG_len (c : UInt8) : ∀ (l cur : List UInt8), (splitG c l cur).length = (splitG c l []).length
  | [], _ => rfl
  | b :: l, cur => by
    rw [splitG, splitG]
    split
    · rfl
    · rw [splitG_len c l (cur ++ [b]), splitG_len c l ([] ++ [b])]
theorem sup_count : ∀ (l : List UInt8), (∀ x r, l = x ++ 46 :: r → vnL r = true) → (supGo l).length + 1 = (splitL 46 l).length
  | [], _ => rfl
  | b :: r, h => by
    have ih := sup_count r (fun x t e => h (b :: x) t (by rw [e]; rfl))
    unfold splitL at ih ⊢
    by_cases hb : b = 46
    · rw [supGo, if_pos ⟨hb, h [] r (by rw [hb]; rfl)⟩, splitG, if_pos hb, List.length_cons, List.length_cons, ih]
    · rw [supGo, if_neg (fun hc => hb hc.1), splitG, if_neg hb, splitG_len, ih]
theorem supers_count (n : List UInt8) : (supersL n).length = labelsL n - 1 := by
  unfold supersL labelsL
  split
  · rename_i h
    have := sup_count n (fun x r e => by
      rw [vn_iff] at h ⊢
      rw [e] at h
      exact h.suffix)
    omega
  · rfl
theorem supers_at (n : List UInt8) (k : Nat) (hk : k < (supersL n).length) : vnL n = true ∧ (46 :: (supersL n)[k]) <:+ (if k = 0 then n else (supersL n).getD (k - 1) []) ∧ vnL (supersL n)[k] = true ∧ (46 :: (supersL n)[k]) <:+ n := by
  by_cases h : vnL n = true
  · have e : supersL n = supGo n := by unfold supersL; rw [if_pos h]
    have hk' : k < (supGo n).length := by rw [← e]; exact hk
    have h1 := (sup_chain n n (List.suffix_refl n)).at_ k hk'
    have h2 := sup_suffix n (supGo n)[k] (List.getElem_mem hk')
    simp only [e]
    exact ⟨h, h1.1, h1.2, h2.1⟩
  · have e : supersL n = [] := by unfold supersL; rw [if_neg h]
    rw [e] at hk
    cases hk
end

section
open Go.RowKit

theorem join_snoc58 (x : List UInt8) : ∀ Q : List (List UInt8), joinL 58 (Q ++ [x]) = joinL 58 Q ++ ((if Q = [] then [] else [58]) ++ x)
  | [] => rfl
  | [a] => rfl
  | a :: b :: r => by
    have ih := join_snoc58 x (b :: r)
    rw [if_neg (by simp)] at ih ⊢
    rw [List.cons_append, joinL_cons 58 a _ (by simp), ih, joinL_cons 58 a (b :: r) (by simp)]
    simp
theorem take_snoc (a : List Nat) (k : Nat) (h : k < a.length) : a.take (k + 1) = a.take k ++ [a.getD k 0] := by
  rw [List.take_succ_eq_append_getElem h, List.getD_eq_getElem?_getD, List.getElem?_eq_getElem h, Option.getD_some]
theorem txt6_pre (a : List Nat) (t : Int) (m k : Nat) (hk : k < a.length) (h : t < 0 ∨ (k : Int) < t) : txt6 a t m (k + 1) = txt6 a t m k ++ ((if k = 0 then [] else [58]) ++ hexT (a.getD k 0)) := by
  unfold txt6
  rw [if_pos (by omega), if_pos (by omega), take_snoc a k hk, List.map_append, List.map_cons, List.map_nil, join_snoc58]
  congr 2
  by_cases h0 : k = 0
  · subst h0; rfl
  · rw [if_neg h0, if_neg]
    intro e
    rw [List.map_eq_nil_iff, List.take_eq_nil_iff] at e
    rcases e with e | e
    · exact h0 e
    · subst e; simp at hk
theorem txt6_post (a : List Nat) (t m k : Nat) (hk : k < a.length) (hm : 0 < m) (h : t + m ≤ k) : txt6 a (t : Int) m (k + 1) = txt6 a (t : Int) m k ++ ((if k = t + m then [] else [58]) ++ hexT (a.getD k 0)) := by
  unfold txt6
  rw [if_neg (by omega), if_neg (by omega), Int.toNat_natCast, take_snoc a k hk]
  have e : (a.take k ++ [a.getD k 0]).drop (t + m) = (a.take k).drop (t + m) ++ [a.getD k 0] := by
    rw [List.drop_append_of_le_length (by simp; omega)]
  rw [e, List.map_append, List.map_cons, List.map_nil, join_snoc58, List.append_assoc, List.cons_append, List.cons_append]
  congr 4
  by_cases h0 : k = t + m
  · rw [if_pos h0, if_pos]
    rw [List.map_eq_nil_iff, List.drop_eq_nil_iff]
    simp; omega
  · rw [if_neg h0, if_neg]
    intro e
    rw [List.map_eq_nil_iff, List.drop_eq_nil_iff] at e
    simp at e
    omega
theorem txt6_at (a : List Nat) (t m : Nat) (hm : 0 < m) (h : t + m ≤ a.length) : txt6 a (t : Int) m (t + m) = txt6 a (t : Int) m t ++ [58, 58] := by
  unfold txt6
  rw [if_neg (by omega), if_pos (by omega), Int.toNat_natCast]
  have e : (a.take (t + m)).drop (t + m) = [] := by rw [List.drop_eq_nil_iff]; simp; omega
  rw [e]
  simp [joinL]
theorem txt6_zero (a : List Nat) (t : Int) (m : Nat) (h : t < 0 ∨ 0 ≤ t) : txt6 a t m 0 = [] := by
  unfold txt6
  rw [if_pos (by omega)]; rfl
theorem txt6_last_pre (a : List Nat) (ha : G16 a) (t : Int) (m k : Nat) (hk : k ≤ a.length) (h0 : 0 < k) (h : t < 0 ∨ (k : Int) ≤ t) : txt6 a t m k ≠ [] ∧ (txt6 a t m k).getLast? ≠ some 58 := by
  unfold txt6
  rw [if_pos h]
  refine ⟨join_ne (ha.take k).cols ?_, join_last (ha.take k).cols⟩
  intro e
  rw [List.map_eq_nil_iff, List.take_eq_nil_iff] at e
  rcases e with e | e
  · omega
  · subst e; simp at hk; omega
theorem getLast_two (l m : List UInt8) (h : m ≠ []) : (l ++ 58 :: 58 :: m).getLast? = m.getLast? := by
  rw [List.getLast?_append]
  cases m with
  | nil => exact absurd rfl h
  | cons c r =>
    rw [List.getLast?_cons_cons, List.getLast?_cons_cons]
    cases hx : (c :: r).getLast? with
    | none => rw [List.getLast?_eq_none_iff] at hx; cases hx
    | some y => rfl
theorem txt6_last_at (a : List Nat) (t m : Nat) (hm : 0 < m) (h : t + m ≤ a.length) : txt6 a (t : Int) m (t + m) ≠ [] ∧ (txt6 a (t : Int) m (t + m)).getLast? = some 58 := by
  rw [txt6_at a t m hm h]
  refine ⟨by simp, by simp [List.getLast?_append]⟩
theorem txt6_last_post (a : List Nat) (ha : G16 a) (t m k : Nat) (hk : k ≤ a.length) (hm : 0 < m) (h : t + m < k) : txt6 a (t : Int) m k ≠ [] ∧ (txt6 a (t : Int) m k).getLast? ≠ some 58 := by
  unfold txt6
  rw [if_neg (by omega), Int.toNat_natCast]
  have hne : ((a.take k).drop (t + m)).map hexT ≠ [] := by
    intro e
    rw [List.map_eq_nil_iff, List.drop_eq_nil_iff] at e
    simp at e; omega
  have hc := ((ha.take k).drop (t + m)).cols
  refine ⟨by simp, ?_⟩
  rw [getLast_two _ _ (join_ne hc hne)]
  exact join_last hc
theorem join_len (P : List Nat) (h : G16 P) : (joinL 58 (P.map hexT)).length ≤ 5 * P.length := by
  induction P with
  | nil => simp [joinL]
  | cons a r ih =>
    have h1 := (hexT_len a (h a (by simp))).2
    have ih := ih (fun x hx => h x (by simp [hx]))
    cases r with
    | nil => simp [joinL]; omega
    | cons b r =>
      simp only [List.map_cons] at ih ⊢
      rw [joinL]
      simp at ih ⊢
      omega
theorem txt6_len (a : List Nat) (ha : G16 a) (t : Int) (m k : Nat) (hk : k ≤ 8) : (txt6 a t m k).length ≤ 82 := by
  unfold txt6
  split
  · have := join_len (a.take k) (ha.take k); simp only [List.length_take] at this; omega
  · have h1 := join_len (a.take t.toNat) (ha.take _)
    have h2 := join_len ((a.take k).drop (t.toNat + m)) ((ha.take k).drop _)
    rw [List.length_append, List.length_cons, List.length_cons]
    rename_i hh
    simp only [List.length_take, List.length_drop] at h1 h2
    omega
theorem zrun_more (l : List Nat) (q : Nat) (h : q ≤ zrun l) (hq : q < l.length) (hz : l.getD q 0 = 0) : q + 1 ≤ zrun l := by
  induction l generalizing q with
  | nil => simp at hq
  | cons x r ih =>
    unfold zrun at h ih ⊢
    rw [List.takeWhile_cons] at h ⊢
    cases q with
    | zero =>
      have hx : x = 0 := by simpa using hz
      subst hx
      simp
    | succ q =>
      by_cases hx : (x == 0) = true
      · rw [if_pos hx] at h ⊢
        have := ih q (by simpa using h) (by simpa using hq) (by simpa using hz)
        simp; omega
      · rw [if_neg hx] at h
        simp at h
theorem zrun_stop (l : List Nat) (q : Nat) (h : q ≤ zrun l) (hq : q = l.length ∨ (q < l.length ∧ l.getD q 0 ≠ 0)) : zrun l = q := by
  induction l generalizing q with
  | nil => simp [zrun] at h ⊢; omega
  | cons x r ih =>
    have hle := zrun_le (x :: r)
    unfold zrun at h ih hle ⊢
    rw [List.takeWhile_cons] at h hle ⊢
    by_cases hx : (x == 0) = true
    · rw [if_pos hx] at h hle ⊢
      cases q with
      | zero =>
        rcases hq with hq | hq
        · simp at hq
        · exact absurd (by simpa using hx) hq.2
      | succ q =>
        have := ih q (by simpa using h) (by
          rcases hq with hq | hq
          · exact .inl (by simpa using hq)
          · exact .inr ⟨by simpa using hq.1, by simpa using hq.2⟩)
        simp only [List.length_cons]
        omega
    · rw [if_neg hx] at h ⊢
      simp at h ⊢
      omega
end

section
open Go.RowKit

/-- What stands before the first byte of a kind, and what stands from it on. -/
def befL (p : UInt8 → Bool) (l : List UInt8) : List UInt8 := l.takeWhile fun b => !p b
def fromL (p : UInt8 → Bool) (l : List UInt8) : List UInt8 := l.dropWhile fun b => !p b
def isB (c : UInt8) (b : UInt8) : Bool := b == c
theorem bef_from (p : UInt8 → Bool) (l : List UInt8) : befL p l ++ fromL p l = l := List.takeWhile_append_dropWhile
theorem bef_not (p : UInt8 → Bool) : ∀ (l : List UInt8), ∀ b ∈ befL p l, p b = false
  | [], b, h => by cases h
  | a :: l, b, h => by
    unfold befL at h
    rw [List.takeWhile_cons] at h
    split at h
    · rename_i ha
      rcases List.mem_cons.1 h with rfl | h
      · simpa using ha
      · exact bef_not p l b h
    · cases h
theorem from_head (p : UInt8 → Bool) : ∀ (l : List UInt8) (b : UInt8) (r : List UInt8), fromL p l = b :: r → p b = true
  | [], b, r, h => by cases h
  | a :: l, b, r, h => by
    unfold fromL at h
    rw [List.dropWhile_cons] at h
    split at h
    · exact from_head p l b r h
    · rename_i ha
      injection h with h1 h2
      rw [← h1]
      simpa using ha
theorem bef_nil {p : UInt8 → Bool} {l : List UInt8} (h : ∀ b ∈ l, p b = false) : befL p l = l ∧ fromL p l = [] := by
  have h1 := bef_from p l
  have h2 : fromL p l = [] := by
    cases hf : fromL p l with
    | nil => rfl
    | cons b r =>
      have := from_head p l b r hf
      have hm : b ∈ l := by rw [← h1, hf]; simp
      rw [h b hm] at this
      cases this
  rw [h2, List.append_nil] at h1
  exact ⟨h1, h2⟩
theorem bef_app {p : UInt8 → Bool} {a b : List UInt8} (ha : ∀ x ∈ a, p x = false) (c : UInt8) (r : List UInt8) (hb : b = c :: r) (hc : p c = true) : befL p (a ++ b) = a ∧ fromL p (a ++ b) = b := by
  subst hb
  induction a with
  | nil =>
    unfold befL fromL
    rw [List.nil_append, List.takeWhile_cons, List.dropWhile_cons, if_neg (by rw [hc]; simp), if_neg (by rw [hc]; simp)]
    exact ⟨rfl, rfl⟩
  | cons x a ih =>
    have hx := ha x (by simp)
    obtain ⟨i1, i2⟩ := ih (fun y hy => ha y (by simp [hy]))
    unfold befL fromL at *
    rw [List.cons_append, List.takeWhile_cons, List.dropWhile_cons, if_pos (by rw [hx]; rfl), if_pos (by rw [hx]; rfl), i1, i2]
    exact ⟨rfl, rfl⟩
theorem any_isB {c : UInt8} {l : List UInt8} : l.any (isB c) = true ↔ c ∈ l := by
  rw [List.any_eq_true]
  constructor
  · rintro ⟨x, hx, h⟩
    have : x = c := by simpa [isB] using h
    rwa [← this]
  · exact fun h => ⟨c, h, by simp [isB]⟩
theorem any_none {p : UInt8 → Bool} {l : List UInt8} (h : l.any p = false) : ∀ b ∈ l, p b = false := by
  intro b hb
  cases hp : p b with
  | false => rfl
  | true =>
    have : l.any p = true := List.any_eq_true.2 ⟨b, hb, hp⟩
    rw [h] at this
    cases this
theorem none_any {p : UInt8 → Bool} {l : List UInt8} (h : ∀ b ∈ l, p b = false) : l.any p = false := by
  cases ha : l.any p with
  | false => rfl
  | true =>
    obtain ⟨x, hx, hp⟩ := List.any_eq_true.1 ha
    rw [h x hx] at hp
    cases hp
theorem mem_bef {p : UInt8 → Bool} {l : List UInt8} {b : UInt8} (h : b ∈ befL p l) : b ∈ l := by
  rw [← bef_from p l]
  exact List.mem_append_left _ h
theorem mem_from {p : UInt8 → Bool} {l : List UInt8} {b : UInt8} (h : b ∈ fromL p l) : b ∈ l := by
  rw [← bef_from p l]
  exact List.mem_append_right _ h
theorem indexByte_cut (c : UInt8) : ∀ l : List UInt8, (Lib.indexByte l c = -1 ∧ befL (isB c) l = l ∧ fromL (isB c) l = []) ∨ ∃ r, fromL (isB c) l = c :: r ∧ Lib.indexByte l c = ((befL (isB c) l).length : Int)
  | [] => .inl ⟨rfl, rfl, rfl⟩
  | b :: l => by
    by_cases hb : b = c
    · subst hb
      right
      refine ⟨l, ?_, ?_⟩
      · unfold fromL
        rw [List.dropWhile_cons, if_neg (by simp [isB])]
      · have e : befL (isB b) (b :: l) = [] := by
          unfold befL
          rw [List.takeWhile_cons, if_neg (by simp [isB])]
        rw [e, Lib.indexByte, if_pos (by simp)]
        rfl
    · have hb2 : (b == c) = false := by simpa using hb
      have e1 : befL (isB c) (b :: l) = b :: befL (isB c) l := by
        unfold befL
        rw [List.takeWhile_cons, if_pos (by simp [isB, hb])]
      have e2 : fromL (isB c) (b :: l) = fromL (isB c) l := by
        unfold fromL
        rw [List.dropWhile_cons, if_pos (by simp [isB, hb])]
      rw [e1, e2]
      rcases indexByte_cut c l with ⟨h1, h2, h3⟩ | ⟨r, h1, h2⟩
      · left
        refine ⟨?_, by rw [h2], h3⟩
        rw [Lib.indexByte, hb2, h1]; rfl
      · right
        refine ⟨r, h1, ?_⟩
        rw [Lib.indexByte, hb2, h2]
        have h4 : (((befL (isB c) l).length : Int) == -1) = false := by
          rw [beq_eq_false_iff_ne]
          omega
        rw [h4]
        simp
end

section
open Go.RowKit

/-- A URL. -/
structure Uv where
  scheme : List UInt8
  user : List UInt8
  host : Hv
  port : Int
  rest : List UInt8
def uv0 : Uv := ⟨[], [], hv0, 0, []⟩

def sHttp : List UInt8 := [104, 116, 116, 112]
def sHttps : List UInt8 := [104, 116, 116, 112, 115]
def sWs : List UInt8 := [119, 115]
def sWss : List UInt8 := [119, 115, 115]
def insL (s : List UInt8) : Bool := s == sHttp || s == sWs
def stdP (s : List UInt8) : Int := if insL s = true then 80 else if (s == sHttps || s == sWss) = true then 443 else -1
def specL (s : List UInt8) : Bool := insL s || s == sHttps || s == sWss
def secL (s : List UInt8) : List UInt8 := if s == sHttp then sHttps else sWss
def exclB (b : UInt8) : Bool := decide (b.toNat ≤ 32) || b == 127
def letB (b : UInt8) : Bool := (decide (97 ≤ b.toNat) && decide (b.toNat ≤ 122)) || (decide (65 ≤ b.toNat) && decide (b.toNat ≤ 90))
def folB (b : UInt8) : Bool := (decide (48 ≤ b.toNat) && decide (b.toNat ≤ 57)) || b == 43 || b == 45 || b == 46
def schL : List UInt8 → Bool
  | [] => false
  | b :: r => letB b && r.all fun c => letB c || folB c
def endA (b : UInt8) : Bool := b == 47 || b == 63 || b == 35
def userL (l : List UInt8) : List UInt8 := ((fromL (isB 64) l.reverse).drop 1).reverse
def addrL (l : List UInt8) : List UInt8 := (befL (isB 64) l.reverse).reverse
def portP (d : List UInt8) (std : Int) : Option Int :=
  if d = [] then some (-1) else if d.all digitU = true then (if 65535 < valB 10 0 d then none else if (valB 10 0 d : Int) = std then some (-1) else some (valB 10 0 d : Int)) else none
def cutB (a : List UInt8) : Option (List UInt8 × List UInt8) := match fromL (isB 93) a with
  | [] => none
  | _ :: [] => some (befL (isB 93) a ++ [93], [])
  | _ :: c :: d => if c = 58 then some (befL (isB 93) a ++ [93], d) else none
def cutP (a : List UInt8) : Option (List UInt8 × List UInt8) := if a.head? = some 91 then cutB a else some (befL (isB 58) a, (fromL (isB 58) a).drop 1)
def restP (r : List UInt8) : List UInt8 := if r.head? = some 47 then r else 47 :: r
def hostP (sch user rest n d : List UInt8) : Nat × Uv :=
  if (parseH n).1 = 0 then (match portP d (stdP sch) with
    | none => (16, uv0)
    | some p => (0, ⟨sch, user, (parseH n).2, p, restP rest⟩))
  else ((parseH n).1, uv0)
def authP (sch auth rest : List UInt8) : Nat × Uv := match cutP (addrL auth) with
  | none => (4, uv0)
  | some q => hostP sch (userL auth) rest q.1 q.2
def specP (sch r : List UInt8) : Nat × Uv := if r.take 2 = [47, 47] then authP sch (befL endA (r.drop 2)) (fromL endA (r.drop 2)) else (4, uv0)
def parseU (l : List UInt8) : Nat × Uv :=
  if l.any exclB = true then (4, uv0)
  else if (l.any (isB 58) && schL (befL (isB 58) l)) = true then
    (if specL (lowL (befL (isB 58) l)) = true then specP (lowL (befL (isB 58) l)) ((fromL (isB 58) l).drop 1) else (0, ⟨lowL (befL (isB 58) l), [], hv0, -1, (fromL (isB 58) l).drop 1⟩))
  else (15, uv0)
def parseUL (l : List UInt8) : Nat × Uv := if 2048 < l.length then (3, uv0) else parseU l

def userT (s : List UInt8) : List UInt8 := if s = [] then [] else s ++ [64]
def portT (p : Int) : List UInt8 := if p = -1 then [] else 58 :: Lib.decDigits p.toNat
def textU (u : Uv) : List UInt8 := if specL u.scheme = true then u.scheme ++ 58 :: 47 :: 47 :: (userT u.user ++ (fmtH u.host ++ portT u.port) ++ u.rest) else u.scheme ++ 58 :: u.rest
def upU (u : Uv) : Uv := if insL u.scheme = true then ⟨secL u.scheme, u.user, u.host, if u.port = 443 then -1 else u.port, u.rest⟩ else u

/-! ### cutting -/
/-- The last at sign. -/
theorem at_none {l : List UInt8} (h : 64 ∉ l) : userL l = [] ∧ addrL l = l := by
  have hh : ∀ b ∈ l.reverse, isB 64 b = false := by
    intro b hb
    have : b ≠ 64 := fun e => h (by rw [← e]; exact List.mem_reverse.1 hb)
    simpa [isB] using this
  obtain ⟨h1, h2⟩ := bef_nil hh
  unfold userL addrL
  rw [h1, h2]
  simp
theorem at_some {u a : List UInt8} (h : 64 ∉ a) : userL (u ++ 64 :: a) = u ∧ addrL (u ++ 64 :: a) = a := by
  have hh : ∀ b ∈ a.reverse, isB 64 b = false := by
    intro b hb
    have : b ≠ 64 := fun e => h (by rw [← e]; exact List.mem_reverse.1 hb)
    simpa [isB] using this
  have e : (u ++ 64 :: a).reverse = a.reverse ++ 64 :: u.reverse := by simp
  obtain ⟨h1, h2⟩ := bef_app hh (b := 64 :: u.reverse) 64 u.reverse rfl (by simp [isB])
  unfold userL addrL
  rw [e, h1, h2]
  simp
theorem at_cases (l : List UInt8) : (64 ∉ l ∧ userL l = [] ∧ addrL l = l) ∨ (l = userL l ++ 64 :: addrL l ∧ 64 ∉ addrL l) := by
  have h1 := bef_from (isB 64) l.reverse
  have h2 : 64 ∉ addrL l := by
    unfold addrL
    rw [List.mem_reverse]
    intro hm
    have := bef_not (isB 64) l.reverse 64 hm
    simp [isB] at this
  cases hf : fromL (isB 64) l.reverse with
  | nil =>
    left
    rw [hf, List.append_nil] at h1
    have e : addrL l = l := by unfold addrL; rw [h1, List.reverse_reverse]
    rw [e] at h2
    exact ⟨h2, (at_none h2).1, e⟩
  | cons b r =>
    right
    have hb : b = 64 := by simpa [isB] using from_head (isB 64) _ b r hf
    have e : l = userL l ++ 64 :: addrL l := by
      unfold userL addrL
      rw [hf, List.drop_succ_cons, List.drop_zero]
      have := congrArg List.reverse h1
      rw [hf, hb, List.reverse_reverse] at this
      exact this.symm.trans (by simp)
    exact ⟨e, h2⟩

/-! ### kinds of bytes -/
theorem let_not (b : UInt8) (h : (letB b || folB b) = true) : exclB b = false ∧ isB 58 b = false ∧ endA b = false := by
  have key : ∀ n : Fin 256, (letB (UInt8.ofNat n.val) || folB (UInt8.ofNat n.val)) = true → exclB (UInt8.ofNat n.val) = false ∧ isB 58 (UInt8.ofNat n.val) = false ∧ endA (UInt8.ofNat n.val) = false := by decide +kernel
  have := key ⟨b.toNat, b.toNat_lt⟩
  simp only [UInt8.ofNat_toNat] at this
  exact this h
theorem let_low (b : UInt8) : letB (lowU b) = letB b ∧ folB (lowU b) = folB b ∧ exclB (lowU b) = exclB b ∧ isB 58 (lowU b) = isB 58 b := by
  have key : ∀ n : Fin 256, letB (lowU (UInt8.ofNat n.val)) = letB (UInt8.ofNat n.val) ∧ folB (lowU (UInt8.ofNat n.val)) = folB (UInt8.ofNat n.val) ∧ exclB (lowU (UInt8.ofNat n.val)) = exclB (UInt8.ofNat n.val) ∧ isB 58 (lowU (UInt8.ofNat n.val)) = isB 58 (UInt8.ofNat n.val) := by decide +kernel
  have := key ⟨b.toNat, b.toNat_lt⟩
  simp only [UInt8.ofNat_toNat] at this
  exact this
theorem sch_all {s : List UInt8} (h : schL s = true) : ∀ b ∈ s, (letB b || folB b) = true := by
  cases s with
  | nil => cases h
  | cons a r =>
    unfold schL at h
    rw [Bool.and_eq_true, List.all_eq_true] at h
    intro b hb
    rcases List.mem_cons.1 hb with rfl | hb
    · rw [h.1]; rfl
    · exact h.2 b hb
theorem sch_low (s : List UInt8) : schL (lowL s) = schL s := by
  cases s with
  | nil => rfl
  | cons a r =>
    show (letB (lowU a) && (r.map lowU).all _) = _
    rw [List.all_map, (let_low a).1]
    unfold schL
    congr 2
    funext c
    show (letB (lowU c) || folB (lowU c)) = _
    rw [(let_low c).1, (let_low c).2.1]
def hosB (b : UInt8) : Prop := exclB b = false ∧ endA b = false ∧ b ≠ 64
instance (b : UInt8) : Decidable (hosB b) := by unfold hosB; infer_instance
theorem okN_hos (b : UInt8) (h : okN b.toNat = true) : hosB b ∧ b ≠ 58 ∧ b ≠ 91 ∧ b ≠ 93 := by
  have key : ∀ n : Fin 256, okN (UInt8.ofNat n.val).toNat = true → (exclB (UInt8.ofNat n.val) = false ∧ endA (UInt8.ofNat n.val) = false ∧ UInt8.ofNat n.val ≠ 64) ∧ UInt8.ofNat n.val ≠ 58 ∧ UInt8.ofNat n.val ≠ 91 ∧ UInt8.ofNat n.val ≠ 93 := by decide +kernel
  have := key ⟨b.toNat, b.toNat_lt⟩
  simp only [UInt8.ofNat_toNat] at this
  exact this h
theorem dig_hos (b : UInt8) (h : 48 ≤ b.toNat ∧ b.toNat ≤ 57) : hosB b ∧ b ≠ 58 ∧ b ≠ 91 ∧ b ≠ 93 := by
  refine okN_hos b ?_
  unfold okN
  rw [decide_eq_true h.1, decide_eq_true h.2]
  simp
theorem hexc_hos : ∀ d : Fin 16, (exclB (hexc d.val) = false ∧ endA (hexc d.val) = false ∧ hexc d.val ≠ 64) ∧ hexc d.val ≠ 93 := by decide +kernel
theorem fmt6_bytes {g : List Nat} (hg : G16 g) : ∀ b ∈ fmt6 g, hosB b ∧ b ≠ 93 := by
  have h58 : hosB 58 ∧ (58 : UInt8) ≠ 93 := ⟨⟨by decide, by decide, by decide⟩, by decide⟩
  have hj : ∀ P : List Nat, G16 P → ∀ b ∈ joinL 58 (P.map hexT), hosB b ∧ b ≠ 93 := by
    intro P hP b hb
    rcases mem_joinL 58 _ b hb with rfl | ⟨x, hx, hb⟩
    · exact h58
    · obtain ⟨v, hv, rfl⟩ := List.mem_map.1 hx
      have hv := hP v hv
      have := digs_all (b := 16) (by omega) (by omega) (fun c => decide (hosB c ∧ c ≠ 93)) (fun d hd => by
        have h := hexc_hos ⟨d, hd⟩
        exact decide_eq_true h) v (by omega)
      exact of_decide_eq_true (List.all_eq_true.1 this b hb)
  intro b hb
  unfold fmt6 txt6 at hb
  split at hb
  · exact hj _ (hg.take _) b hb
  · rcases List.mem_append.1 hb with hb | hb
    · exact hj _ (hg.take _) b hb
    · rcases List.mem_cons.1 hb with rfl | hb
      · exact h58
      rcases List.mem_cons.1 hb with rfl | hb
      · exact h58
      · exact hj _ ((hg.take _).drop _) b hb
/-- The text of a valid host: no byte that ends it elsewhere. -/
theorem fmtH_bytes {h : Hv} (hw : h.Wf) (hv : validH h = true) : (∀ b ∈ fmtH h, hosB b) ∧ fmtH h ≠ [] ∧ (((fmtH h).head? ≠ some 91 ∧ ∀ b ∈ fmtH h, b ≠ 58) ∨ ∃ x, fmtH h = 91 :: (x ++ [93]) ∧ ∀ b ∈ x, b ≠ 93) := by
  unfold fmtH
  rw [if_pos hv]
  rcases valid_kinds hv with ⟨hn, he⟩ | he | he
  · have hk : h.kind = 1 := by rw [he]; rfl
    unfold fmtT
    rw [if_pos hk]
    have hb : ∀ b ∈ h.name, hosB b ∧ b ≠ 58 ∧ b ≠ 91 := by
      intro b hb
      rcases hn.bytes b hb with rfl | hb
      · exact ⟨⟨by decide, by decide, by decide⟩, by decide, by decide⟩
      · exact ⟨(okN_hos b hb).1, (okN_hos b hb).2.1, (okN_hos b hb).2.2.1⟩
    refine ⟨fun b h => (hb b h).1, hn.ne, .inl ⟨?_, fun b h => (hb b h).2.1⟩⟩
    intro hh
    cases hnm : h.name with
    | nil => exact hn.ne hnm
    | cons a r =>
      rw [hnm] at hh
      injection hh with hh
      exact (hb a (by rw [hnm]; simp)).2.2 hh
  · have hk : h.kind = 2 := by rw [he]; rfl
    unfold fmtT
    rw [if_neg (by omega), if_pos hk]
    have hb : ∀ b ∈ fmtI h.v4, hosB b ∧ b ≠ 58 ∧ b ≠ 91 := by
      intro b hb
      rcases fmtI_bytes h.v4 b hb with rfl | hb
      · exact ⟨⟨by decide, by decide, by decide⟩, by decide, by decide⟩
      · exact ⟨(dig_hos b hb).1, (dig_hos b hb).2.1, (dig_hos b hb).2.2.1⟩
    have hne : fmtI h.v4 ≠ [] := by
      unfold fmtI
      intro e
      have := congrArg List.length e
      simp [joinL] at this
    refine ⟨fun b h => (hb b h).1, hne, .inl ⟨?_, fun b h => (hb b h).2.1⟩⟩
    intro hh
    cases hnm : fmtI h.v4 with
    | nil => exact hne hnm
    | cons a r =>
      rw [hnm] at hh
      injection hh with hh
      exact (hb a (by rw [hnm]; simp)).2.2 hh
  · have hk : h.kind = 3 := by rw [he]; rfl
    unfold fmtT
    rw [if_neg (by omega), if_neg (by omega)]
    have hb := fmt6_bytes hw.2.2
    refine ⟨?_, by simp, .inr ⟨fmt6 h.v6, rfl, fun b h => (hb b h).2⟩⟩
    intro b h9
    rcases List.mem_cons.1 h9 with rfl | h9
    · exact ⟨by decide, by decide, by decide⟩
    rcases List.mem_append.1 h9 with h9 | h9
    · exact (hb b h9).1
    · simp at h9
      subst h9
      exact ⟨by decide, by decide, by decide⟩

/-! ### what is parsed is good -/
structure UGood (u : Uv) : Prop where
  sch : schL u.scheme = true
  low : lowL u.scheme = u.scheme
  exu : ∀ b ∈ u.user, exclB b = false
  exr : ∀ b ∈ u.rest, exclB b = false
  wf : u.host.Wf
  spec : specL u.scheme = true → validH u.host = true ∧ (∀ b ∈ u.user, endA b = false) ∧ u.rest.head? = some 47 ∧ (u.port = -1 ∨ (0 ≤ u.port ∧ u.port ≤ 65535 ∧ u.port ≠ stdP u.scheme))
  plain : specL u.scheme = false → u.user = [] ∧ u.host = hv0 ∧ u.port = -1

theorem portP_range {d : List UInt8} {std p : Int} (h : portP d std = some p) : p = -1 ∨ (0 ≤ p ∧ p ≤ 65535 ∧ p ≠ std) := by
  unfold portP at h
  split at h
  · injection h with h
    exact .inl h.symm
  · split at h
    · split at h
      · cases h
      · rename_i h1
        split at h
        · injection h with h
          exact .inl h.symm
        · rename_i h2
          injection h with h
          subst h
          exact .inr ⟨by omega, by omega, h2⟩
    · cases h
theorem parse_hostgood {sch user rest n d : List UInt8} {u : Uv} (h : hostP sch user rest n d = (0, u)) (hs : schL sch = true) (hl : lowL sch = sch) (hsp : specL sch = true) (hu : ∀ b ∈ user, exclB b = false ∧ endA b = false) (hr : ∀ b ∈ rest, exclB b = false) : UGood u := by
  unfold hostP at h
  split at h
  · rename_i h0
    split at h
    · cases h
    · rename_i p hp
      obtain ⟨_, rfl⟩ := Prod.mk.inj h
      obtain ⟨hw, hv⟩ := parse_valid n
      have hvv : validH (parseH n).2 = true := by
        rcases hv with ⟨_, hv⟩ | ⟨hv, _⟩
        · exact hv
        · exact absurd h0 hv
      refine ⟨hs, hl, fun b hb => (hu b hb).1, ?_, hw, fun _ => ⟨hvv, fun b hb => (hu b hb).2, ?_, portP_range hp⟩, fun h => ?_⟩
      · intro b hb
        simp only [restP] at hb
        split at hb
        · exact hr b hb
        · rcases List.mem_cons.1 hb with rfl | hb
          · decide
          · exact hr b hb
      · simp only [restP]
        split
        · rename_i h; exact h
        · rfl
      · rw [show (Uv.mk sch user (parseH n).2 p (restP rest)).scheme = sch from rfl, hsp] at h
        cases h
  · rename_i h0
    exact absurd (Prod.mk.inj h).1 h0
theorem mem_user {l : List UInt8} {b : UInt8} (h : b ∈ userL l) : b ∈ l := by
  rcases at_cases l with ⟨_, h1, _⟩ | ⟨h1, _⟩
  · rw [h1] at h; cases h
  · rw [h1]; exact List.mem_append_left _ h
theorem parse_good {l : List UInt8} {u : Uv} (h : parseU l = (0, u)) : UGood u := by
  unfold parseU at h
  split at h
  · cases h
  rename_i hx
  have hx : ∀ b ∈ l, exclB b = false := any_none (by simpa using hx)
  split at h
  · rename_i hs
    rw [Bool.and_eq_true] at hs
    have h1 := hs.2
    rw [← sch_low] at h1
    split at h
    · rename_i hsp
      unfold specP at h
      split at h
      · unfold authP at h
        split at h
        · cases h
        · refine parse_hostgood h h1 (lowL_lowL _) hsp ?_ ?_
          · intro b hb
            have hb := mem_user hb
            exact ⟨hx b (mem_from (List.mem_of_mem_drop (List.mem_of_mem_drop (mem_bef hb)))), bef_not endA _ b hb⟩
          · intro b hb
            exact hx b (mem_from (List.mem_of_mem_drop (List.mem_of_mem_drop (mem_from hb))))
      · cases h
    · rename_i hsp
      obtain ⟨_, rfl⟩ := Prod.mk.inj h
      refine ⟨h1, lowL_lowL _, (fun b hb => by cases hb), ?_, hv0_wf, fun h => absurd h hsp, fun _ => ⟨rfl, rfl, rfl⟩⟩
      intro b hb
      exact hx b (mem_from (List.mem_of_mem_drop hb))
  · cases h

/-! ### good URLs are read back -/
theorem port_back {p std : Int} (h : p = -1 ∨ (0 ≤ p ∧ p ≤ 65535 ∧ p ≠ std)) : portP ((portT p).drop 1) std = some p := by
  unfold portT
  split
  · rename_i h1
    subst h1
    rfl
  · rename_i h1
    rcases h with h | ⟨h2, h3, h4⟩
    · exact absurd h h1
    rw [List.drop_succ_cons, List.drop_zero]
    unfold portP
    have e : (p.toNat : Int) = p := by omega
    rw [if_neg (dec_ne _), if_pos (dec_digits _), dec_valB, if_neg (by omega), e, if_neg h4]
theorem cutP_back {x : List UInt8} {p : Int} (h : (x.head? ≠ some 91 ∧ ∀ b ∈ x, b ≠ 58) ∨ ∃ y, x = 91 :: (y ++ [93]) ∧ ∀ b ∈ y, b ≠ 93) (hne : x ≠ []) : cutP (x ++ portT p) = some (x, (portT p).drop 1) := by
  unfold cutP
  rcases h with ⟨h1, h2⟩ | ⟨y, rfl, h2⟩
  · have hh : (x ++ portT p).head? ≠ some 91 := by
      cases x with
      | nil => exact absurd rfl hne
      | cons a r => exact h1
    rw [if_neg hh]
    have h3 : ∀ b ∈ x, isB 58 b = false := fun b hb => by simpa [isB] using h2 b hb
    unfold portT
    split
    · rw [List.append_nil, (bef_nil h3).1, (bef_nil h3).2]
    · obtain ⟨e1, e2⟩ := bef_app h3 (b := 58 :: Lib.decDigits p.toNat) 58 _ rfl (by simp [isB])
      rw [e1, e2]
  · rw [if_pos (by rfl)]
    unfold cutB
    have e : 91 :: (y ++ [93]) ++ portT p = (91 :: y) ++ 93 :: portT p := by simp
    have h3 : ∀ b ∈ 91 :: y, isB 93 b = false := by
      intro b hb
      rcases List.mem_cons.1 hb with rfl | hb
      · decide
      · simpa [isB] using h2 b hb
    obtain ⟨e1, e2⟩ := bef_app h3 (b := 93 :: portT p) 93 _ rfl (by simp [isB])
    rw [e, e1, e2]
    by_cases hp : p = -1
    · rw [show portT p = [] by unfold portT; rw [if_pos hp]]
      rfl
    · rw [show portT p = 58 :: Lib.decDigits p.toNat by unfold portT; rw [if_neg hp]]
      rfl
theorem good_parse {u : Uv} (h : UGood u) : parseU (textU u) = (0, u) := by
  obtain ⟨sch, user, host, port, rest⟩ := u
  have hs := sch_all h.sch
  have h58 : ∀ b ∈ sch, isB 58 b = false := fun b hb => (let_not b (hs b hb)).2.1
  have hxs : ∀ b ∈ sch, exclB b = false := fun b hb => (let_not b (hs b hb)).1
  cases hsp : specL sch with
  | true =>
    obtain ⟨hv, hu, hr, hp⟩ := h.spec hsp
    have hw := h.wf
    have hxu := h.exu
    have hxr := h.exr
    have hsc := h.sch
    have hlo := h.low
    simp only at hv hu hr hp hw hxu hxr hsc hlo
    obtain ⟨hb, hne, hc⟩ := fmtH_bytes hw hv
    have hpt : ∀ b ∈ portT port, hosB b := by
      unfold portT
      split
      · intro b hb; cases hb
      · intro b hb
        rcases List.mem_cons.1 hb with rfl | hb
        · exact ⟨by decide, by decide, by decide⟩
        · exact (dig_hos b (dec_byte _ b hb)).1
    have hA : ∀ b ∈ fmtH host ++ portT port, hosB b := fun b hb' => by
      rcases List.mem_append.1 hb' with h | h
      · exact hb b h
      · exact hpt b h
    obtain ⟨a, ha⟩ : ∃ a, a = fmtH host ++ portT port := ⟨_, rfl⟩
    have et : textU ⟨sch, user, host, port, rest⟩ = sch ++ 58 :: 47 :: 47 :: (userT user ++ a ++ rest) := by
      unfold textU
      rw [if_pos hsp, ha]
    have hU : ∀ b ∈ userT user, exclB b = false ∧ endA b = false := by
      unfold userT
      split
      · intro b hb; cases hb
      · intro b hb
        rcases List.mem_append.1 hb with h | h
        · exact ⟨hxu b h, hu b h⟩
        · simp at h
          subst h
          exact ⟨by decide, by decide⟩
    rw [et]
    have hE : (sch ++ 58 :: 47 :: 47 :: (userT user ++ a ++ rest)).any exclB = false := by
      refine none_any fun b hb => ?_
      rcases List.mem_append.1 hb with h | h
      · exact hxs b h
      rcases List.mem_cons.1 h with rfl | h
      · decide
      rcases List.mem_cons.1 h with rfl | h
      · decide
      rcases List.mem_cons.1 h with rfl | h
      · decide
      rcases List.mem_append.1 h with h | h
      · rcases List.mem_append.1 h with h | h
        · exact (hU b h).1
        · rw [ha] at h; exact (hA b h).1
      · exact hxr b h
    unfold parseU
    rw [if_neg (by rw [hE]; simp)]
    obtain ⟨e1, e2⟩ := bef_app h58 (b := 58 :: 47 :: 47 :: (userT user ++ a ++ rest)) 58 _ rfl (by decide)
    rw [e1, e2, if_pos (by rw [Bool.and_eq_true]; exact ⟨any_isB.2 (by simp), hsc⟩), hlo, if_pos hsp]
    unfold specP
    rw [if_pos (by rfl)]
    have hend : ∀ b ∈ userT user ++ a, endA b = false := fun b hb => by
      rcases List.mem_append.1 hb with h | h
      · exact (hU b h).2
      · rw [ha] at h; exact (hA b h).2.1
    have hrc : ∃ r, rest = 47 :: r := by
      cases rest with
      | nil => cases hr
      | cons c r =>
        injection hr with hr
        exact ⟨r, by rw [hr]⟩
    obtain ⟨r, hrr⟩ := hrc
    obtain ⟨e3, e4⟩ := bef_app hend (b := rest) 47 r hrr (by decide)
    rw [show (List.drop 1 (58 :: 47 :: 47 :: (userT user ++ a ++ rest))).drop 2 = userT user ++ a ++ rest from rfl, e3, e4]
    have h64 : 64 ∉ a := fun hm => by rw [ha] at hm; exact (hA 64 hm).2.2 rfl
    have eU : userL (userT user ++ a) = user ∧ addrL (userT user ++ a) = a := by
      unfold userT
      split
      · rename_i h0
        rw [List.nil_append, h0]
        exact at_none h64
      · rw [List.append_assoc]
        exact at_some h64
    unfold authP
    rw [eU.1, eU.2, ha, cutP_back hc hne]
    simp only
    unfold hostP
    rw [parse_fmt hw hv (by have : (fmt6 host.v6).length ≤ 82 := txt6_len host.v6 hw.2.2 _ _ 8 (Nat.le_refl _); omega), port_back hp]
    simp only [if_true]
    have : restP rest = rest := by unfold restP; rw [if_pos hr]
    rw [this]
  | false =>
    obtain ⟨h1, h2, h3⟩ := h.plain hsp
    have hxr := h.exr
    have hsc := h.sch
    have hlo := h.low
    simp only at h1 h2 h3 hxr hsc hlo
    have et : textU ⟨sch, user, host, port, rest⟩ = sch ++ 58 :: rest := by
      unfold textU
      rw [if_neg (by rw [hsp]; simp)]
    rw [et]
    have hE : (sch ++ 58 :: rest).any exclB = false := by
      refine none_any fun b hb => ?_
      rcases List.mem_append.1 hb with h | h
      · exact hxs b h
      rcases List.mem_cons.1 h with rfl | h
      · decide
      · exact hxr b h
    unfold parseU
    rw [if_neg (by rw [hE]; simp)]
    obtain ⟨e1, e2⟩ := bef_app h58 (b := 58 :: rest) 58 _ rfl (by decide)
    rw [e1, e2, if_pos (by rw [Bool.and_eq_true]; exact ⟨any_isB.2 (by simp), hsc⟩), hlo, if_neg (by rw [hsp]; simp), h1, h2, h3]
    rfl
theorem text_ne (u : Uv) : textU u ≠ [] := by
  unfold textU
  split <;> simp

/-! ### upgrades -/
theorem ins_cases {s : List UInt8} (h : insL s = true) : s = sHttp ∨ s = sWs := by
  unfold insL at h
  simpa using h
theorem sec_facts : ∀ s, insL s = true → schL (secL s) = true ∧ lowL (secL s) = secL s ∧ specL s = true ∧ specL (secL s) = true ∧ insL (secL s) = false ∧ stdP (secL s) = 443 ∧ stdP s = 80 := by
  intro s h
  rcases ins_cases h with rfl | rfl <;> decide +kernel
theorem good_up {u : Uv} (h : UGood u) : UGood (upU u) := by
  unfold upU
  split
  · rename_i hi
    obtain ⟨f1, f2, f3, f4, f5, f6, f7⟩ := sec_facts u.scheme hi
    obtain ⟨g1, g2, g3, g4⟩ := h.spec f3
    refine ⟨f1, f2, h.exu, h.exr, h.wf, fun _ => ⟨g1, g2, g3, ?_⟩, fun h9 => ?_⟩
    · show (if u.port = 443 then -1 else u.port) = -1 ∨ (0 ≤ (if u.port = 443 then -1 else u.port) ∧ (if u.port = 443 then -1 else u.port) ≤ 65535 ∧ (if u.port = 443 then -1 else u.port) ≠ stdP (secL u.scheme))
      rw [f6]
      split
      · exact .inl rfl
      · rename_i hp
        rcases g4 with g4 | g4
        · exact .inl g4
        · exact .inr ⟨g4.1, g4.2.1, hp⟩
    · rw [show (Uv.mk (secL u.scheme) u.user u.host (if u.port = 443 then -1 else u.port) u.rest).scheme = secL u.scheme from rfl, f4] at h9
      cases h9
  · exact h
theorem up_up (u : Uv) : upU (upU u) = upU u := by
  by_cases hi : insL u.scheme = true
  · have f5 := (sec_facts u.scheme hi).2.2.2.2.1
    have e : upU u = ⟨secL u.scheme, u.user, u.host, if u.port = 443 then -1 else u.port, u.rest⟩ := by unfold upU; rw [if_pos hi]
    rw [e]
    unfold upU
    rw [if_neg (by rw [f5]; simp)]
  · have e : upU u = u := by unfold upU; rw [if_neg hi]
    rw [e, e]

/-! ### the scheme's letters -/
theorem low_any (p : UInt8 → Bool) (hp : ∀ b, p (lowU b) = p b) (l : List UInt8) : (lowL l).any p = l.any p := by
  unfold lowL
  rw [List.any_map]
  congr 1
  funext b
  exact hp b
/-- Small letters in front of the first colon change nothing. -/
theorem parse_low (l : List UInt8) : parseU (lowL (befL (isB 58) l) ++ fromL (isB 58) l) = parseU l := by
  have h1 := bef_from (isB 58) l
  obtain ⟨a, ha⟩ : ∃ a, a = befL (isB 58) l := ⟨_, rfl⟩
  obtain ⟨r, hr⟩ : ∃ r, r = fromL (isB 58) l := ⟨_, rfl⟩
  have h58 : ∀ b ∈ a, isB 58 b = false := by rw [ha]; exact bef_not _ l
  have h58' : ∀ b ∈ lowL a, isB 58 b = false := by
    intro b hb
    obtain ⟨c, hc, rfl⟩ := List.mem_map.1 hb
    rw [(let_low c).2.2.2]
    exact h58 c hc
  have hB : befL (isB 58) (lowL a ++ r) = lowL a ∧ fromL (isB 58) (lowL a ++ r) = r := by
    cases hr' : r with
    | nil => rw [List.append_nil]; exact bef_nil h58'
    | cons c t =>
      refine bef_app h58' c t rfl ?_
      exact from_head (isB 58) l c t (by rw [← hr, hr'])
  rw [← ha, ← hr]
  have hx : (lowL a ++ r).any exclB = l.any exclB := by
    rw [← h1, ← ha, ← hr, List.any_append, List.any_append, low_any exclB (fun b => (let_low b).2.2.1)]
  have hc : (lowL a ++ r).any (isB 58) = l.any (isB 58) := by
    rw [← h1, ← ha, ← hr, List.any_append, List.any_append, low_any (isB 58) (fun b => (let_low b).2.2.2)]
  unfold parseU
  rw [hx, hc, hB.1, hB.2, lowL_lowL, sch_low, ← ha, ← hr]
end

end Go.Proofs.YtpccpgihldpiiaaGreatDoor
