/-
  Plain facts on the encodings of layer 3 (wire): numbers in base 128, texts, fixed numbers. No program.
-/
import Derived.Test.YtealjcpgcghfpaaBase
namespace Go.Proofs.Ytealjcpgcghfpaa

/-- The encoding of a number, in at most so many bytes. -/
def encF : Nat → Nat → List UInt8
  | 0, _ => []
  | f + 1, v => if v < 128 then [UInt8.ofNat v] else UInt8.ofNat (v % 128 + 128) :: encF f (v / 128)
def enc (v : Nat) : List UInt8 := encF 10 v
theorem encF_last (f : Nat) {v : Nat} (h : v < 128) : encF (f + 1) v = [UInt8.ofNat v] := by simp [encF, h]
theorem encF_more (f : Nat) {v : Nat} (h : 128 ≤ v) : encF (f + 1) v = UInt8.ofNat (v % 128 + 128) :: encF f (v / 128) := by
  simp only [encF]
  rw [if_neg (by omega)]

/-- How many of the first f bytes have the highest bit set, up to the first that has not. -/
def cont : Nat → List UInt8 → Nat
  | 0, _ => 0
  | _ + 1, [] => 0
  | f + 1, c :: l => if c.toNat < 128 then 0 else cont f l + 1
def val : List UInt8 → Nat
  | [] => 0
  | c :: l => c.toNat % 128 + 128 * val l
/-- What a number at the beginning is: value, bytes, error. -/
def dec (l : List UInt8) : Nat × Nat × Nat :=
  if cont 10 l = 10 then (0, 0, 19)
  else if cont 10 l = l.length then (0, 0, 5)
  else if cont 10 l = 9 ∧ 1 < (l.getD 9 0).toNat then (0, 0, 19)
  else if 0 < cont 10 l ∧ (l.getD (cont 10 l) 0).toNat = 0 then (0, 0, 6)
  else (val (l.take (cont 10 l + 1)), cont 10 l + 1, 0)

theorem cont_le (f : Nat) (l : List UInt8) : cont f l ≤ f ∧ cont f l ≤ l.length := by
  induction f generalizing l with
  | zero => simp [cont]
  | succ f ih =>
    match l with
    | [] => simp [cont]
    | c :: l =>
      simp only [cont]
      have := ih l
      split <;> simp <;> omega
theorem cont_of {f n : Nat} {l : List UInt8} (hf : n ≤ f) (hl : n ≤ l.length) (h : ∀ j, j < n → 128 ≤ (l.getD j 0).toNat) (he : n < f → n < l.length → (l.getD n 0).toNat < 128) : cont f l = n := by
  induction f generalizing n l with
  | zero => simp [cont]; omega
  | succ f ih =>
    match l with
    | [] => simp at hl; simp [cont, hl]
    | c :: l =>
      match n with
      | 0 =>
        have := he (by omega) (by simp)
        simp at this
        simp [cont, this]
      | n + 1 =>
        have h0 := h 0 (by omega)
        simp at h0
        simp only [cont]
        rw [if_neg (by omega), ih (n := n) (by omega) (by simpa using hl) (fun j hj => by simpa using h (j + 1) (by omega)) (fun h1 h2 => by simpa using he (by omega) (by simpa using h2))]
theorem cont_bytes {f : Nat} {l : List UInt8} : (∀ j, j < cont f l → 128 ≤ (l.getD j 0).toNat) ∧ (cont f l < f → cont f l < l.length → (l.getD (cont f l) 0).toNat < 128) := by
  induction f generalizing l with
  | zero => simp [cont]
  | succ f ih =>
    match l with
    | [] => simp [cont]
    | c :: l =>
      simp only [cont]
      split
      · rename_i hc
        simp [hc]
      · rename_i hc
        refine ⟨fun j hj => ?_, fun h1 h2 => ?_⟩
        · match j with
          | 0 => simp; omega
          | j + 1 => simpa using ih.1 j (by omega)
        · simpa using ih.2 (by omega) (by simpa using h2)

theorem val_append (l m : List UInt8) : val (l ++ m) = val l + 128 ^ l.length * val m := by
  induction l with
  | nil => simp [val]
  | cons c l ih =>
    simp only [List.cons_append, val, ih, List.length_cons, Nat.pow_succ]
    rw [Nat.mul_add, Nat.mul_comm (128 ^ l.length) 128, Nat.mul_assoc]
    omega
theorem val_lt (l : List UInt8) : val l < 128 ^ l.length := by
  induction l with
  | nil => simp [val]
  | cons c l ih =>
    simp only [val, List.length_cons, Nat.pow_succ]
    have := Nat.mod_lt c.toNat (show 0 < 128 by decide)
    omega
theorem val_one (c : UInt8) : val [c] = c.toNat % 128 := by simp [val]
theorem val_snoc (l : List UInt8) (c : UInt8) : val (l ++ [c]) = val l + 128 ^ l.length * (c.toNat % 128) := by rw [val_append, val_one]

/-- What an encoding looks like. -/
structure Form (f : Nat) (init : List UInt8) (c : UInt8) : Prop where
  big : ∀ b ∈ init, 128 ≤ b.toNat
  last : c.toNat < 128
  pos : init ≠ [] → c.toNat ≠ 0
  few : init.length < f
theorem ofNat_toNat {v : Nat} (h : v < 256) : (UInt8.ofNat v).toNat = v := by rw [UInt8.toNat_ofNat']; omega
theorem enc_form {f v : Nat} (h : v < 128 ^ f) (hf : 0 < f) : ∃ init c, encF f v = init ++ [c] ∧ Form f init c ∧ val (init ++ [c]) = v := by
  induction f generalizing v with
  | zero => omega
  | succ f ih =>
    by_cases hv : v < 128
    · refine ⟨[], UInt8.ofNat v, by rw [encF_last f hv]; rfl, ⟨by simp, by rw [ofNat_toNat (by omega)]; exact hv, by simp, by simp⟩, ?_⟩
      simp [val, ofNat_toNat (show v < 256 by omega)]
      omega
    · have hf0 : 0 < f := by
        rcases Nat.eq_zero_or_pos f with rfl | h0
        · simp at h; omega
        · exact h0
      obtain ⟨init, c, he, hform, hval⟩ := ih (v := v / 128) (by rw [Nat.pow_succ] at h; omega) hf0
      refine ⟨UInt8.ofNat (v % 128 + 128) :: init, c, by rw [encF_more f (by omega), he]; rfl, ⟨?_, hform.last, ?_, by have := hform.few; simp; omega⟩, ?_⟩
      · intro b hb
        rcases List.mem_cons.1 hb with rfl | hb
        · rw [ofNat_toNat (by omega)]; omega
        · exact hform.big b hb
      · intro _ h0
        match init, hform, hval with
        | [], _, hval =>
          rw [List.nil_append, val_one, h0] at hval
          omega
        | b :: init, hform, _ => exact hform.pos (by simp) h0
      · rw [List.cons_append, val, hval, ofNat_toNat (by omega)]
        omega
theorem form_enc {f : Nat} {init : List UInt8} {c : UInt8} (h : Form f init c) : encF f (val (init ++ [c])) = init ++ [c] := by
  induction init generalizing f with
  | nil =>
    match f, h.few with
    | f + 1, _ =>
      have hc := h.last
      rw [List.nil_append, val_one, Nat.mod_eq_of_lt hc, encF_last f hc]
      simp
  | cons b init ih =>
    match f, h.few with
    | f + 1, hf =>
      have hb := h.big b (by simp)
      have hbl := b.toNat_lt
      have hform : Form f init c := ⟨fun x hx => h.big x (by simp [hx]), h.last, fun _ => h.pos (by simp), by simp at hf; omega⟩
      have hi := ih hform
      have hpos : 0 < val (init ++ [c]) := by
        rw [val_snoc, Nat.mod_eq_of_lt h.last]
        have h1 := h.pos (by simp)
        have h2 : 0 < 128 ^ init.length := Nat.pow_pos (by decide)
        have := Nat.mul_pos h2 (Nat.pos_of_ne_zero h1)
        omega
      rw [List.cons_append, val, encF_more f (by omega), show (b.toNat % 128 + 128 * val (init ++ [c])) / 128 = val (init ++ [c]) by omega, hi,
        show (b.toNat % 128 + 128 * val (init ++ [c])) % 128 + 128 = b.toNat by omega]
      simp

theorem getD_append_at (init : List UInt8) (c : UInt8) (rest : List UInt8) : (init ++ c :: rest).getD init.length 0 = c := by
  rw [List.getD_eq_getElem?_getD, List.getElem?_append_right (Nat.le_refl _)]
  simp
theorem dec_form {init : List UInt8} {c : UInt8} (rest : List UInt8) (h : Form 10 init c) (h9 : init.length = 9 → c.toNat ≤ 1) : dec (init ++ c :: rest) = (val (init ++ [c]), init.length + 1, 0) := by
  have hfew := h.few
  have hc : cont 10 (init ++ c :: rest) = init.length := by
    refine cont_of (by omega) (by simp) (fun j hj => ?_) (fun _ _ => ?_)
    · rw [List.getD_eq_getElem?_getD, List.getElem?_append_left hj, List.getElem?_eq_getElem hj, Option.getD_some]
      exact h.big _ (List.getElem_mem _)
    · rw [getD_append_at]
      exact h.last
  unfold dec
  rw [hc, if_neg (by omega), if_neg (by simp), if_neg (by
    rintro ⟨h1, h2⟩
    rw [← h1, getD_append_at] at h2
    have := h9 h1
    omega), if_neg (by
    rintro ⟨h1, h2⟩
    rw [getD_append_at] at h2
    exact h.pos (by intro e; simp [e] at h1) h2)]
  rw [show init ++ c :: rest = (init ++ [c]) ++ rest by simp, List.take_left' (by simp)]
theorem dec_ok {l : List UInt8} (h : (dec l).2.2 = 0) : ∃ init c rest, l = init ++ c :: rest ∧ Form 10 init c ∧ (init.length = 9 → c.toNat ≤ 1) ∧ dec l = (val (init ++ [c]), init.length + 1, 0) := by
  obtain ⟨k1, k2⟩ := cont_le 10 l
  obtain ⟨b1, b2⟩ := cont_bytes (f := 10) (l := l)
  unfold dec at h
  by_cases g1 : cont 10 l = 10
  · rw [if_pos g1] at h; simp at h
  by_cases g2 : cont 10 l = l.length
  · rw [if_neg g1, if_pos g2] at h; simp at h
  by_cases g3 : cont 10 l = 9 ∧ 1 < (l.getD 9 0).toNat
  · rw [if_neg g1, if_neg g2, if_pos g3] at h; simp at h
  by_cases g4 : 0 < cont 10 l ∧ (l.getD (cont 10 l) 0).toNat = 0
  · rw [if_neg g1, if_neg g2, if_neg g3, if_pos g4] at h; simp at h
  have hlt : cont 10 l < l.length := by omega
  have hlen : (l.take (cont 10 l)).length = cont 10 l := by rw [List.length_take]; omega
  have hsplit : l = l.take (cont 10 l) ++ l[cont 10 l] :: l.drop (cont 10 l + 1) := by
    rw [← List.drop_eq_getElem_cons hlt, List.take_append_drop]
  have hget : l.getD (cont 10 l) 0 = l[cont 10 l] := by rw [List.getD_eq_getElem?_getD, List.getElem?_eq_getElem hlt]; rfl
  have hform : Form 10 (l.take (cont 10 l)) l[cont 10 l] := by
    refine ⟨fun b hb => ?_, ?_, fun hne => ?_, by rw [hlen]; omega⟩
    · obtain ⟨j, hj, rfl⟩ := List.getElem_of_mem hb
      rw [hlen] at hj
      have := b1 j hj
      rw [List.getD_eq_getElem?_getD, List.getElem?_eq_getElem (by omega), Option.getD_some] at this
      rw [List.getElem_take]
      exact this
    · have := b2 (by omega) hlt
      rwa [hget] at this
    · intro h0
      refine g4 ⟨?_, by rw [hget]; exact h0⟩
      rcases Nat.eq_zero_or_pos (cont 10 l) with e | e
      · rw [e] at hne; simp at hne
      · exact e
  have h9 : (l.take (cont 10 l)).length = 9 → (l[cont 10 l]).toNat ≤ 1 := by
    rw [hlen]
    intro e
    have : ¬ 1 < (l.getD 9 0).toNat := fun h => g3 ⟨e, h⟩
    rw [← hget, e]
    omega
  refine ⟨_, _, _, hsplit, hform, h9, ?_⟩
  have := dec_form (l.drop (cont 10 l + 1)) hform h9
  rwa [← hsplit] at this

theorem getD_at (l : List UInt8) (k : Nat) (h : k < l.length) : l.getD k 0 = l[k] := by rw [List.getD_eq_getElem?_getD, List.getElem?_eq_getElem h, Option.getD_some]
theorem dec_ten {l : List UInt8} (h : cont 10 l = 10) : dec l = (0, 0, 19) := by unfold dec; rw [if_pos h]
theorem dec_end {l : List UInt8} (h : cont 10 l = l.length) (h1 : l.length < 10) : dec l = (0, 0, 5) := by unfold dec; rw [if_neg (by omega), if_pos h]
theorem dec_big {l : List UInt8} {n : Nat} (h : cont 10 l = n) (h1 : n < l.length) (h9 : n = 9) (h2 : 1 < l[n].toNat) : dec l = (0, 0, 19) := by
  subst h9
  unfold dec; rw [if_neg (by omega), if_neg (by omega), if_pos ⟨h, by rw [getD_at l 9 h1]; exact h2⟩]
theorem dec_zero {l : List UInt8} {n : Nat} (h : cont 10 l = n) (h1 : n < l.length) (h0 : 0 < n) (h10 : n < 10) (h2 : l[n].toNat = 0) : dec l = (0, 0, 6) := by
  unfold dec
  rw [h, if_neg (by omega), if_neg (by omega), if_neg (by
    rintro ⟨e, h3⟩
    subst e
    rw [getD_at l _ h1] at h3
    omega), if_pos ⟨h0, by rw [getD_at l n h1]; exact h2⟩]
theorem dec_val {l : List UInt8} {n : Nat} (h : cont 10 l = n) (h1 : n < l.length) (h10 : n < 10) (h9 : n = 9 → l[n].toNat ≤ 1) (h2 : 0 < n → l[n].toNat ≠ 0) : dec l = (val (l.take (n + 1)), n + 1, 0) := by
  unfold dec
  rw [h, if_neg (by omega), if_neg (by omega), if_neg (by
    rintro ⟨e, h3⟩
    have h4 := h9 e
    subst e
    rw [getD_at l _ h1] at h3
    omega), if_neg (by
    rintro ⟨e, h3⟩
    rw [getD_at l _ h1] at h3
    exact h2 e h3)]
theorem val_take_succ (l : List UInt8) (k : Nat) (h : k < l.length) : val (l.take (k + 1)) = val (l.take k) + 128 ^ k * (l[k].toNat % 128) := by
  rw [List.take_succ_eq_append_getElem h, val_snoc, List.length_take, Nat.min_eq_left (by omega)]
theorem val_drop_step (l : List UInt8) (i : Nat) (h : i < l.length) : val (l.drop i) = l[i].toNat % 128 + 128 * val (l.drop (i + 1)) := by
  rw [List.drop_eq_getElem_cons h, val]
theorem val_drop_le (l : List UInt8) (i : Nat) : val (l.drop i) ≤ val l := by
  have h := val_append (l.take i) (l.drop i)
  rw [List.take_append_drop] at h
  have : 1 * val (l.drop i) ≤ 128 ^ (l.take i).length * val (l.drop i) := Nat.mul_le_mul_right _ (Nat.pow_pos (by decide))
  omega

/-- Decoding reads back an encoding, whatever follows. -/
theorem dec_enc {v : Nat} (h : v < 18446744073709551616) (rest : List UInt8) : dec (enc v ++ rest) = (v, (enc v).length, 0) := by
  obtain ⟨init, c, he, hform, hval⟩ := enc_form (f := 10) (v := v) (Nat.lt_of_lt_of_le h (by decide)) (by decide)
  unfold enc
  rw [he, List.append_assoc, List.singleton_append, dec_form rest hform ?_, hval]
  · simp
  · intro h9
    rw [val_snoc, h9, Nat.mod_eq_of_lt hform.last] at hval
    have : (128 : Nat) ^ 9 = 9223372036854775808 := by decide
    rw [this] at hval
    omega
/-- Whatever is decoded has the bytes of its encoding. -/
theorem dec_canon {l : List UInt8} (h : (dec l).2.2 = 0) : 1 ≤ (dec l).2.1 ∧ (dec l).2.1 ≤ l.length ∧ (dec l).2.1 ≤ 10 ∧ enc (dec l).1 = l.take (dec l).2.1 ∧ (dec l).1 < 18446744073709551616 := by
  obtain ⟨init, c, rest, rfl, hform, h9, he⟩ := dec_ok h
  rw [he]
  have hfew := hform.few
  refine ⟨by simp, by simp, by simp; omega, ?_, ?_⟩
  · show encF 10 (val (init ++ [c])) = _
    rw [form_enc hform, show init ++ c :: rest = (init ++ [c]) ++ rest by simp]
    exact (List.take_left' (by simp)).symm
  · show val (init ++ [c]) < _
    rw [val_snoc, Nat.mod_eq_of_lt hform.last]
    have hv := val_lt init
    have hl := hform.last
    by_cases e : init.length = 9
    · have := h9 e
      rw [e] at hv ⊢
      have e9 : (128 : Nat) ^ 9 = 9223372036854775808 := by decide
      rw [e9] at hv ⊢
      omega
    · have hp : (128 : Nat) ^ init.length ≤ 128 ^ 8 := Nat.pow_le_pow_right (by decide) (by omega)
      have e8 : (128 : Nat) ^ 8 = 72057594037927936 := by decide
      rw [e8] at hp
      generalize 128 ^ init.length = m at *
      have : m * c.toNat ≤ 72057594037927936 * 127 := Nat.mul_le_mul hp (by omega)
      omega
theorem dec_bad {l : List UInt8} (h : (dec l).2.2 ≠ 0) : (dec l).1 = 0 ∧ (dec l).2.1 = 0 ∧ ((dec l).2.2 = 5 ∨ (dec l).2.2 = 6 ∨ (dec l).2.2 = 19) := by
  unfold dec at h ⊢
  split
  · simp
  · rename_i g1
    rw [if_neg g1] at h
    split
    · simp
    · rename_i g2
      rw [if_neg g2] at h
      split
      · simp
      · rename_i g3
        rw [if_neg g3] at h
        split
        · simp
        · rename_i g4
          rw [if_neg g4] at h
          simp at h
theorem encF_length (f v : Nat) : (encF f v).length ≤ f := by
  induction f generalizing v with
  | zero => simp [encF]
  | succ f ih =>
    simp only [encF]
    split
    · simp
    · have := ih (v / 128); simp; omega
theorem enc_pos (v : Nat) : 0 < (enc v).length := by
  unfold enc
  simp only [encF]
  split <;> simp
theorem enc_len (v : Nat) : (enc v).length ≤ 10 := encF_length 10 v
theorem encF_mono (f : Nat) {v u : Nat} (h : v ≤ u) : (encF f v).length ≤ (encF f u).length := by
  induction f generalizing v u with
  | zero => simp [encF]
  | succ f ih =>
    by_cases h1 : u < 128
    · rw [encF_last f h1, encF_last f (by omega)]; simp
    · by_cases h2 : v < 128
      · rw [encF_last f h2, encF_more f (by omega)]; simp
      · rw [encF_more f (by omega), encF_more f (by omega)]
        have := ih (v := v / 128) (u := u / 128) (by omega)
        simpa using this
theorem enc_mono {v u : Nat} (h : v ≤ u) : (enc v).length ≤ (enc u).length := encF_mono 10 h
/-- No encoding is a beginning of another one. -/
theorem enc_prefix {v u : Nat} (hv : v < 18446744073709551616) (hu : u < 18446744073709551616) (h : (enc v).take (min (enc v).length (enc u).length) = (enc u).take (min (enc v).length (enc u).length)) : v = u := by
  have key : ∀ a b : Nat, a < 18446744073709551616 → b < 18446744073709551616 → (enc a).length ≤ (enc b).length → (enc a) = (enc b).take (enc a).length → a = b := by
    intro a b ha hb _ he
    have h1 := dec_enc hb []
    rw [List.append_nil] at h1
    have h2 := dec_enc ha ((enc b).drop (enc a).length)
    rw [show enc a ++ (enc b).drop (enc a).length = enc b by
      conv => lhs; rw [he]
      rw [List.length_take, Nat.min_eq_left (by assumption), List.take_append_drop]] at h2
    rw [h1] at h2
    exact (congrArg Prod.fst h2).symm
  rcases Nat.le_total (enc v).length (enc u).length with hl | hl
  · rw [Nat.min_eq_left hl, List.take_length] at h
    exact key v u hv hu hl h
  · rw [Nat.min_eq_right hl, List.take_length] at h
    exact (key u v hu hv hl h.symm).symm

/-- What a text at the beginning is: bytes, length, error. -/
def decT (l : List UInt8) : List UInt8 × Nat × Nat :=
  if (dec l).2.2 ≠ 0 then ([], 0, (dec l).2.2)
  else if 4096 < (dec l).1 then ([], 0, 3)
  else if l.length < (dec l).2.1 + (dec l).1 then ([], 0, 5)
  else ((l.drop (dec l).2.1).take (dec l).1, (dec l).2.1 + (dec l).1, 0)
def encT (s : List UInt8) : List UInt8 := enc s.length ++ s
theorem decT_encT (s rest : List UInt8) (h : s.length ≤ 4096) : decT (encT s ++ rest) = (s, (encT s).length, 0) := by
  have hd := dec_enc (v := s.length) (by omega) (s ++ rest)
  unfold decT encT
  rw [List.append_assoc, hd]
  simp only [ne_eq, not_true_eq_false, if_false]
  rw [if_neg (by omega), if_neg (by simp <;> omega)]
  simp
theorem decT_canon {l : List UInt8} (h : (decT l).2.2 = 0) : 1 ≤ (decT l).2.1 ∧ (decT l).2.1 ≤ l.length ∧ encT (decT l).1 = l.take (decT l).2.1 ∧ (decT l).1.length ≤ 4096 := by
  unfold decT at h ⊢
  by_cases g1 : (dec l).2.2 ≠ 0
  · rw [if_pos g1] at h; exact absurd h g1
  rw [if_neg g1] at h ⊢
  have g1' : (dec l).2.2 = 0 := by simpa using g1
  obtain ⟨c1, c2, _, c3, _⟩ := dec_canon g1'
  by_cases g2 : 4096 < (dec l).1
  · rw [if_pos g2] at h; simp at h
  rw [if_neg g2] at h ⊢
  by_cases g3 : l.length < (dec l).2.1 + (dec l).1
  · rw [if_pos g3] at h; simp at h
  rw [if_neg g3]
  have hl : ((l.drop (dec l).2.1).take (dec l).1).length = (dec l).1 := by simp; omega
  refine ⟨by simp; omega, by simp; omega, ?_, by simp only; omega⟩
  simp only [encT]
  rw [hl, c3, List.take_add]

def fixE (v : Nat) : List UInt8 := [UInt8.ofNat (v % 256), UInt8.ofNat (v / 256 % 256), UInt8.ofNat (v / 65536 % 256), UInt8.ofNat (v / 16777216 % 256)]
def fixV (l : List UInt8) : Nat := (l.getD 0 0).toNat + (l.getD 1 0).toNat * 256 + (l.getD 2 0).toNat * 65536 + (l.getD 3 0).toNat * 16777216
def decX (l : List UInt8) : Nat × Nat := if l.length < 4 then (0, 5) else (fixV l, 0)
theorem decX_fixE {v : Nat} (h : v < 4294967296) (rest : List UInt8) : decX (fixE v ++ rest) = (v, 0) := by
  unfold decX
  rw [if_neg (by simp [fixE] <;> omega)]
  simp only [fixE, fixV, List.cons_append, List.nil_append, List.getD_cons_zero, List.getD_cons_succ]
  rw [ofNat_toNat (by omega), ofNat_toNat (by omega), ofNat_toNat (by omega), ofNat_toNat (by omega)]
  congr 1
  omega

end Go.Proofs.Ytealjcpgcghfpaa
