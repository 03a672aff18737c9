/-
  A reader of IPv6 addresses from left to right: no program.
-/
import Derived.Test.YthihfhmclmmadaaDoorI6P
namespace Go.Proofs.YthihfhmclmmadaaDoor
open Go.RowKit

/-- How many hexadecimal digits a text begins with, at most n. -/
def hexN : Nat → List UInt8 → Nat
  | 0, _ => 0
  | _ + 1, [] => 0
  | n + 1, c :: r => if digV c < 16 then hexN n r + 1 else 0
theorem hexN_le : ∀ (n : Nat) (l : List UInt8), hexN n l ≤ n ∧ hexN n l ≤ l.length
  | 0, _ => by simp [hexN]
  | _ + 1, [] => by simp [hexN]
  | n + 1, c :: r => by
    have ih := hexN_le n r
    unfold hexN
    split
    · simp only [List.length_cons]; omega
    · simp
theorem hexN_lt : ∀ (n : Nat) (l : List UInt8) (k : Nat), k < hexN n l → digV (l.getD k 0) < 16
  | 0, _, k, h => by simp [hexN] at h
  | _ + 1, [], k, h => by simp [hexN] at h
  | n + 1, c :: r, k, h => by
    unfold hexN at h
    split at h
    · rename_i hc
      cases k with
      | zero => exact hc
      | succ k => rw [List.getD_cons_succ]; exact hexN_lt n r k (by omega)
    · omega
theorem hexN_stop : ∀ (n : Nat) (l : List UInt8), hexN n l = n ∨ hexN n l = l.length ∨ ¬ digV (l.getD (hexN n l) 0) < 16
  | 0, _ => .inl rfl
  | _ + 1, [] => .inr (.inl rfl)
  | n + 1, c :: r => by
    have ih := hexN_stop n r
    unfold hexN
    split
    · rcases ih with h | h | h
      · left; omega
      · right; left; simp only [List.length_cons]; omega
      · right; right; rw [List.getD_cons_succ]; exact h
    · rename_i hc
      right; right; exact hc
theorem hexN_all (n : Nat) (l : List UInt8) : (l.take (hexN n l)).all (fun c => decide (digV c < 16)) = true := by
  rw [List.all_eq_true]
  intro c hc
  obtain ⟨k, hk, rfl⟩ := List.getElem_of_mem hc
  have h1 : k < hexN n l := by simp at hk; omega
  have h2 := hexN_lt n l k h1
  have h3 : k < l.length := by simp at hk; omega
  rw [List.getD_eq_getElem?_getD, List.getElem?_eq_getElem h3, Option.getD_some] at h2
  rw [List.getElem_take]
  exact decide_eq_true h2
theorem dig_58 : ¬ digV 58 < 16 := by decide
theorem dig_46 : ¬ digV 46 < 16 := by decide
theorem hex_free (x : List UInt8) (h : x.all (fun c => decide (digV c < 16)) = true) : noB 58 x := by
  intro c hc e
  subst e
  have := List.all_eq_true.1 h _ hc
  exact dig_58 (of_decide_eq_true this)
theorem hexN_append : ∀ (n : Nat) (x r : List UInt8), x.all (fun c => decide (digV c < 16)) = true → x.length ≤ n → (r = [] ∨ ∃ c t, r = c :: t ∧ ¬ digV c < 16) → hexN n (x ++ r) = x.length
  | n, [], r, _, _, hr => by
    rcases hr with rfl | ⟨c, t, rfl, hc⟩
    · cases n <;> rfl
    · cases n with
      | zero => rfl
      | succ n => rw [List.nil_append, hexN, if_neg hc]; rfl
  | 0, c :: x, r, _, h, _ => by simp at h
  | n + 1, c :: x, r, ha, h, hr => by
    rw [List.all_cons, Bool.and_eq_true] at ha
    rw [List.cons_append, hexN, if_pos (of_decide_eq_true ha.1), hexN_append n x r ha.2 (by simp at h; omega) hr]
    rfl

/-- The part of a text before its first colon, and the rest. -/
theorem cut_col : ∀ l : List UInt8, ∃ P, noB 58 P ∧ (l = P ∨ ∃ R, l = P ++ 58 :: R)
  | [] => ⟨[], fun b hb => (by simp at hb), .inl rfl⟩
  | c :: l => by
    by_cases hc : c = 58
    · exact ⟨[], fun b hb => (by simp at hb), .inr ⟨l, by rw [hc]; rfl⟩⟩
    · obtain ⟨P, hP, h⟩ := cut_col l
      refine ⟨c :: P, fun b hb => ?_, ?_⟩
      · rcases List.mem_cons.1 hb with rfl | hb
        · exact hc
        · exact hP b hb
      · rcases h with rfl | ⟨R, rfl⟩
        · exact .inl rfl
        · exact .inr ⟨R, rfl⟩
theorem dbl_skip : ∀ (a m : List UInt8) (i : Nat), noB 58 a → m.head? ≠ some 58 → dblGo (a ++ 58 :: m) i = dblGo m (i + a.length + 1)
  | [], [], i, _, _ => rfl
  | [], c :: m, i, _, h => by
    have hc : c ≠ 58 := by simpa using h
    rw [List.nil_append, dblGo, if_neg (fun e => hc e.2)]
    rfl
  | [x], m, i, ha, h => by
    have hx : x ≠ 58 := ha x (by simp)
    rw [List.cons_append, List.nil_append, dblGo, if_neg (fun e => hx e.1)]
    have := dbl_skip [] m (i + 1) (by intro b hb; simp at hb) h
    simpa using this
  | x :: y :: a, m, i, ha, h => by
    have hx : x ≠ 58 := ha x (by simp)
    rw [List.cons_append, List.cons_append, dblGo, if_neg (fun e => hx e.1)]
    have := dbl_skip (y :: a) m (i + 1) (fun b hb => ha b (by simp at hb ⊢; exact .inr hb)) h
    rw [List.cons_append] at this
    rw [this]
    congr 1
    simp only [List.length_cons]; omega
theorem dbl_ge (P R : List UInt8) (h : noB 58 P) (j : Nat) (hj : dblGo (P ++ 58 :: R) 0 = some j) : P.length ≤ j := by
  by_cases hR : R.head? = some 58
  · cases R with
    | nil => cases hR
    | cons c R =>
      have hc : c = 58 := by simpa using hR
      subst hc
      have := dbl_before P R 0 (dbl_noB P 0 h) (fun e => h 58 (List.mem_of_getLast? e) rfl)
      rw [this] at hj
      injection hj with hj
      omega
  · rw [dbl_skip P R 0 h hR, dbl_shift] at hj
    cases hq : dblGo R 0 with
    | none => rw [hq] at hj; cases hj
    | some q => rw [hq] at hj; injection hj with hj; simp only at hj; omega
theorem grp_pos : ∀ (p : List (List UInt8)) (last : Bool) (g : List Nat), p ≠ [] → grpGo p last = some g → 1 ≤ g.length
  | [], _, _, h, _ => absurd rfl h
  | [x], last, g, _, h => by
    unfold grpGo at h
    split at h
    · injection h with h; subst h; simp
    · split at h
      · injection h with h; subst h; simp
      · cases h
  | x :: y :: r, last, g, _, h => by
    unfold grpGo at h
    split at h
    · cases h
    · split at h
      · cases h
      · injection h with h; subst h; simp
theorem grp_none (P : List UInt8) (rest : List (List UInt8)) (last : Bool) (h : hexL P = none) (hp : last = true → rest = [] → parseL P = none) : grpGo (P :: rest) last = none := by
  cases rest with
  | nil =>
    unfold grpGo
    cases last with
    | false => rw [h]; rfl
    | true => rw [hp rfl rfl, h]; rfl
  | cons y r => unfold grpGo; rw [h]
theorem grp_some (x : List UInt8) (rest : List (List UInt8)) (last : Bool) (v : Nat) (h : hexL x = some v) (hr : rest ≠ []) : grpGo (x :: rest) last = (grpGo rest last).map (v :: ·) := by
  cases rest with
  | nil => exact absurd rfl hr
  | cons y r =>
    rw [grpGo, h]
    cases grpGo (y :: r) last <;> rfl

/-- What is left to be answered when the groups G are read and l is still to be read. -/
def fin6 (G : List Nat) : Option Nat → Option (List Nat)
  | none => if G.length = 8 then some G else none
  | some m => if G.length ≤ 7 then some (G.take m ++ (zerosN (8 - G.length) ++ G.drop m)) else none
def spB (l : List UInt8) (G : List Nat) (m : Nat) : Option (List Nat) := match (if l = [] ∧ G.length = m then some [] else grpGo (splitL 58 l) true) with
  | some h => fin6 (G ++ h) (some m)
  | none => none
def spA (l : List UInt8) (G : List Nat) : Option (List Nat) := match dblGo l 0 with
  | none => (match grpGo (splitL 58 l) true with
    | some g => fin6 (G ++ g) none
    | none => none)
  | some k => (match grpGo (splitL 58 (l.take k)) false with
    | some g => spB (l.drop (k + 2)) (G ++ g) (G ++ g).length
    | none => none)
def sp6 (l : List UInt8) (G : List Nat) : Option Nat → Option (List Nat)
  | none => spA l G
  | some m => spB l G m
theorem sp6_some (l : List UInt8) (G : List Nat) (m : Nat) : sp6 l G (some m) = spB l G m := rfl
theorem sp6_none (l : List UInt8) (G : List Nat) : sp6 l G none = spA l G := rfl
theorem fin6_some (G : List Nat) (m : Nat) : fin6 G (some m) = if G.length ≤ 7 then some (G.take m ++ (zerosN (8 - G.length) ++ G.drop m)) else none := rfl
theorem fin6_none (G : List Nat) : fin6 G none = if G.length = 8 then some G else none := rfl
theorem fin6_long (G : List Nat) (gap : Option Nat) (h : 9 ≤ G.length) : fin6 G gap = none := by
  cases gap with
  | none => rw [fin6_none, if_neg (by omega)]
  | some m => rw [fin6_some, if_neg (by omega)]
theorem split_ne58 (l : List UInt8) : splitL 58 l ≠ [] := splitG_ne 58 l []

/-- The whole text. -/
theorem sp6_start (l : List UInt8) : parse6 l = if l.take 2 = [58, 58] then sp6 (l.drop 2) [] (some 0) else sp6 l [] none := by
  split
  · rename_i h
    obtain ⟨r, rfl⟩ : ∃ r, l = 58 :: 58 :: r := by
      match l, h with
      | a :: b :: r, h => simp at h; exact ⟨r, by rw [h.1, h.2]⟩
    have hd : dblGo (58 :: 58 :: r) 0 = some 0 := by rw [dblGo, if_pos ⟨rfl, rfl⟩]
    unfold parse6 sp6 spB
    rw [hd]
    simp only [List.take_zero, List.drop_succ_cons, List.drop_zero, List.nil_append, List.length_nil]
    rw [show groupsL [] false = some [] from rfl]
    simp only [groupsL]
    by_cases hr : r = []
    · subst hr; simp [fin6]
    · rw [if_neg hr, if_neg (fun e => hr e.1)]
      cases grpGo (splitL 58 r) true with
      | none => rfl
      | some g => simp [fin6]
  · rename_i h
    unfold parse6 sp6 spA
    cases hd : dblGo l 0 with
    | none =>
      simp only [groupsL]
      by_cases hl : l = []
      · subst hl
        rfl
      · rw [if_neg hl]
        cases grpGo (splitL 58 l) true with
        | none => rfl
        | some g => simp [fin6]
    | some k =>
      have hk : l.take k ≠ [] := by
        intro e
        match l, hd, h with
        | a :: b :: r, hd, h =>
          rw [dblGo] at hd
          split at hd
          · rename_i hab; rw [hab.1, hab.2] at h; exact h rfl
          · rw [dbl_shift] at hd
            cases hq : dblGo (b :: r) 0 with
            | none => rw [hq] at hd; cases hd
            | some q =>
              rw [hq] at hd
              injection hd with hd
              simp only at hd
              rw [← hd] at e
              simp at e
      simp only [groupsL]
      rw [if_neg hk]
      cases hg : grpGo (splitL 58 (l.take k)) false with
      | none => rfl
      | some g =>
        simp only [List.nil_append]
        unfold spB
        by_cases hr : l.drop (k + 2) = []
        · rw [if_pos hr, if_pos ⟨hr, rfl⟩]
          simp only [fin6, List.append_nil, List.length_nil, Nat.add_zero, Nat.sub_zero, List.take_length, List.drop_length]
        · rw [if_neg hr, if_neg (fun e => hr e.1)]
          cases grpGo (splitL 58 (l.drop (k + 2))) true with
          | none => rfl
          | some h =>
            simp only [fin6, List.length_append, List.take_left', List.drop_left', Nat.sub_sub]

/-- Nothing is read. -/
theorem sp6_no (l : List UInt8) (G : List Nat) (gap : Option Nat) (hl : ¬ (l = [] ∧ gap = some G.length)) (hp : parseL l = none) (hh : ∀ P, noB 58 P → (l = P ∨ ∃ R, l = P ++ 58 :: R) → hexL P = none) : sp6 l G gap = none := by
  obtain ⟨P, hP, hc⟩ := cut_col l
  have hx := hh P hP hc
  have hg : grpGo (splitL 58 l) true = none := by
    rcases hc with rfl | ⟨R, rfl⟩
    · rw [splitL_one 58 _ hP]
      exact grp_none _ _ _ hx (fun _ _ => hp)
    · rw [splitL_cons 58 P R hP]
      exact grp_none _ _ _ hx (fun _ e => absurd e (split_ne58 R))
  cases gap with
  | some m =>
    rw [sp6_some]; unfold spB
    rw [if_neg (fun e => hl ⟨e.1, by rw [e.2]⟩), hg]
  | none =>
    rw [sp6_none]; unfold spA
    cases hd : dblGo l 0 with
    | none => simp only [hg]
    | some j =>
      have hg2 : grpGo (splitL 58 (l.take j)) false = none := by
        rcases hc with rfl | ⟨R, rfl⟩
        · rw [dbl_noB _ 0 hP] at hd; cases hd
        · have hj := dbl_ge P R hP j hd
          by_cases he : j = P.length
          · rw [he, List.take_left', splitL_one 58 _ hP]
            · exact grp_none _ _ _ hx (fun e => by cases e)
            · rfl
          · obtain ⟨q, rfl⟩ : ∃ q, j = P.length + (q + 1) := ⟨j - P.length - 1, by omega⟩
            rw [List.take_length_add_append, List.take_succ_cons, splitL_cons 58 P _ hP]
            exact grp_none _ _ _ hx (fun e => by cases e)
      simp only [hg2]
/-- More groups than eight. -/
theorem sp6_full (l : List UInt8) (G : List Nat) (gap : Option Nat) (hl : ¬ (l = [] ∧ gap = some G.length)) (h8 : 8 ≤ G.length) : sp6 l G gap = none := by
  have hb : ∀ (t : List UInt8) (H : List Nat) (m : Nat), 8 ≤ H.length → ¬ (t = [] ∧ H.length = m) → spB t H m = none := by
    intro t H m hH ht
    unfold spB
    rw [if_neg ht]
    cases hg : grpGo (splitL 58 t) true with
    | none => rfl
    | some g =>
      have := grp_pos _ _ _ (split_ne58 t) hg
      exact fin6_long _ _ (by simp; omega)
  cases gap with
  | some m => exact hb l G m h8 (fun e => hl ⟨e.1, by rw [e.2]⟩)
  | none =>
    rw [sp6_none]; unfold spA
    cases hd : dblGo l 0 with
    | none =>
      cases hg : grpGo (splitL 58 l) true with
      | none => simp only [hg]
      | some g =>
        have := grp_pos _ _ _ (split_ne58 l) hg
        simp only [hg]
        exact fin6_long _ _ (by simp; omega)
    | some k =>
      cases hg : grpGo (splitL 58 (l.take k)) false with
      | none => simp only [hg]
      | some g =>
        have h1 := grp_pos _ _ _ (split_ne58 (l.take k)) hg
        simp only [hg]
        unfold spB
        by_cases hr : l.drop (k + 2) = []
        · rw [if_pos ⟨hr, rfl⟩]
          exact fin6_long _ _ (by simp; omega)
        · rw [if_neg (fun e => hr e.1)]
          cases grpGo (splitL 58 (l.drop (k + 2))) true with
          | none => rfl
          | some q => exact fin6_long _ _ (by simp; omega)

section
variable {l : List UInt8} {G : List Nat} {gap : Option Nat} {k : Nat}
/-- The value of a group. -/
theorem lead_hexL (h : hexN 4 l = k) (h0 : 0 < k) : hexL (l.take k) = some (valB 16 0 (l.take k)) := by
  have h1 := hexN_le 4 l
  have h2 := hexN_all 4 l
  rw [h] at h1 h2
  unfold hexL
  rw [if_pos ⟨by rw [List.length_take]; omega, h2⟩]
theorem lead_free6 (h : hexN 4 l = k) : noB 58 (l.take k) := by
  have h2 := hexN_all 4 l
  rw [h] at h2
  exact hex_free _ h2
/-- An IPv4 address begins with digits and a dot. -/
theorem lead_dot {u : Nat} (h : parseL l = some u) : 0 < hexN 4 l ∧ ∃ r, l.drop (hexN 4 l) = 46 :: r := by
  obtain ⟨hu, rfl⟩ := parseL_some h
  have hd := dec_all (u / 16777216)
  have hlen : (Lib.decDigits (u / 16777216)).length ≤ 3 := by
    have hlt : u / 16777216 < 256 := by omega
    generalize u / 16777216 = q at hlt
    revert q
    decide +kernel
  have hall : (Lib.decDigits (u / 16777216)).all (fun c => decide (digV c < 16)) = true := by
    rw [List.all_eq_true] at hd ⊢
    intro c hc
    have := of_decide_eq_true (hd c hc)
    exact decide_eq_true (by omega)
  have hpos : 0 < (Lib.decDigits (u / 16777216)).length := by
    have hlt : u / 16777216 < 256 := by omega
    generalize u / 16777216 = q at hlt
    revert q
    decide +kernel
  unfold fmtI
  rw [joinL_cons _ _ _ (by simp)]
  rw [hexN_append 4 _ _ hall (by omega) (.inr ⟨46, _, rfl, dig_46⟩)]
  exact ⟨hpos, _, List.drop_left' rfl⟩
/-- A part that is no group. -/
theorem lead_bad (h : hexN 4 l = k) (hb : k = 0 ∨ ∃ c r, l.drop k = c :: r ∧ c ≠ 58) (P : List UInt8) (hP : noB 58 P) (hc : l = P ∨ ∃ R, l = P ++ 58 :: R) : hexL P = none := by
  by_cases hall : (1 ≤ P.length ∧ P.length ≤ 4) ∧ P.all (fun c => decide (digV c < 16)) = true
  · exfalso
    have hk : k = P.length := by
      rw [← h]
      rcases hc with rfl | ⟨R, rfl⟩
      · have := hexN_append 4 l [] hall.2 hall.1.2 (.inl rfl)
        rwa [List.append_nil] at this
      · exact hexN_append 4 P _ hall.2 hall.1.2 (.inr ⟨58, R, rfl, dig_58⟩)
    rcases hb with h0 | ⟨c, r, hd, hne⟩
    · have := hall.1.1; omega
    · rcases hc with rfl | ⟨R, rfl⟩
      · rw [hk, List.drop_length] at hd; cases hd
      · rw [hk, List.drop_left' rfl] at hd
        injection hd with hd
        exact hne hd.symm
  · unfold hexL
    rw [if_neg hall]
/-- No group, or something behind it that ends the reading. -/
theorem sp6_bad (hl : ¬ (l = [] ∧ gap = some G.length)) (h : hexN 4 l = k) (hb : k = 0 ∨ ∃ c r, l.drop k = c :: r ∧ c ≠ 58 ∧ c ≠ 46) : sp6 l G gap = none := by
  refine sp6_no l G gap hl ?_ (lead_bad h ?_)
  · cases hq : parseL l with
    | none => rfl
    | some u =>
      exfalso
      obtain ⟨h0, r, hr⟩ := lead_dot hq
      rw [h] at h0 hr
      rcases hb with e | ⟨c, t, e, _, h2⟩
      · omega
      · rw [hr] at e; injection e with e; exact h2 e.symm
  · rcases hb with e | ⟨c, t, e, h2, _⟩
    · exact .inl e
    · exact .inr ⟨c, t, e, h2⟩
/-- The last group. -/
theorem sp6_end (h : hexN 4 l = k) (h0 : 0 < k) (hr : l.drop k = []) : sp6 l G gap = fin6 (G ++ [valB 16 0 (l.take k)]) gap := by
  have hx := lead_hexL h h0
  have hn := lead_free6 h
  have hk : l.take k = l := by
    have := List.take_append_drop k l
    rw [hr, List.append_nil] at this
    exact this
  rw [hk] at hx hn ⊢
  have hl : l ≠ [] := by
    intro e; subst e; simp [hexN] at h; omega
  have hg : grpGo (splitL 58 l) true = some [valB 16 0 l] := by
    rw [splitL_one 58 l hn, grpGo, if_pos rfl, hexL_not4 hx, hx]
  cases gap with
  | some m =>
    rw [sp6_some]; unfold spB
    rw [if_neg (fun e => hl e.1), hg]
  | none =>
    rw [sp6_none]; unfold spA
    rw [dbl_noB l 0 hn]
    simp only [hg]
/-- An IPv4 address at the end. -/
theorem sp6_dot {r : List UInt8} (h : hexN 4 l = k) (hr : l.drop k = 46 :: r) : sp6 l G gap = match parseL l with
    | none => none
    | some u => fin6 (G ++ [u / 65536, u % 65536]) gap := by
  have hl : l ≠ [] := by intro e; subst e; simp at hr
  cases hq : parseL l with
  | none => exact sp6_no l G gap (fun e => hl e.1) hq (lead_bad h (.inr ⟨46, r, hr, by decide⟩))
  | some u =>
    have hn : noB 58 l := by
      obtain ⟨hu, rfl⟩ := parseL_some hq
      unfold fmtI
      have hd : ∀ q, noB 58 (Lib.decDigits q) := fun q => hex_free _ (by
        have := dec_all q
        rw [List.all_eq_true] at this ⊢
        intro c hc
        have := of_decide_eq_true (this c hc)
        exact decide_eq_true (by omega))
      intro b hb
      simp only [joinL, List.mem_append, List.mem_cons] at hb
      have h1 := hd (u / 16777216) b
      have h2 := hd (u / 65536 % 256) b
      have h3 := hd (u / 256 % 256) b
      have h4 := hd (u % 256) b
      rcases hb with hb | rfl | hb | rfl | hb | rfl | hb
      · exact h1 hb
      · decide
      · exact h2 hb
      · decide
      · exact h3 hb
      · decide
      · exact h4 hb
    have hg : grpGo (splitL 58 l) true = some [u / 65536, u % 65536] := by
      rw [splitL_one 58 l hn, grpGo, if_pos rfl, hq]
    cases gap with
    | some m =>
      rw [sp6_some]; unfold spB
      rw [if_neg (fun e => hl e.1), hg]
    | none =>
      rw [sp6_none]; unfold spA
      rw [dbl_noB l 0 hn]
      simp only [hg]
/-- The gap. -/
theorem sp6_gap {r : List UInt8} (h : hexN 4 l = k) (h0 : 0 < k) (hr : l.drop k = 58 :: 58 :: r) : sp6 l G none = sp6 r (G ++ [valB 16 0 (l.take k)]) (some (G.length + 1)) := by
  have hx := lead_hexL h h0
  have hn := lead_free6 h
  have hlen : (l.take k).length = k := by have := (hexN_le 4 l).2; rw [h] at this; simp; omega
  have hd : dblGo l 0 = some k := by
    have := dbl_before (l.take k) r 0 (dbl_noB _ 0 hn) (fun e => hn 58 (List.mem_of_getLast? e) rfl)
    rw [← hr, List.take_append_drop, hlen, Nat.zero_add] at this
    exact this
  rw [sp6_none]; unfold spA
  rw [hd]
  simp only
  rw [splitL_one 58 _ hn, show grpGo [l.take k] false = some [valB 16 0 (l.take k)] by rw [grpGo, if_neg (by decide), hx]]
  simp only
  rw [show l.drop (k + 2) = r by rw [← List.drop_drop, hr]; rfl, sp6_some, List.length_append]
  rfl
/-- A single colon. -/
theorem sp6_col {r : List UInt8} (h : hexN 4 l = k) (h0 : 0 < k) (hr : l.drop k = 58 :: r) (hg : gap = none → r.head? ≠ some 58) (hm : ∀ m, gap = some m → m ≤ G.length) : sp6 l G gap = sp6 r (G ++ [valB 16 0 (l.take k)]) gap := by
  have hx := lead_hexL h h0
  have hn := lead_free6 h
  have hlen : (l.take k).length = k := by have := (hexN_le 4 l).2; rw [h] at this; simp; omega
  have hl : l ≠ [] := by intro e; subst e; simp at hr
  have hsp : l = l.take k ++ 58 :: r := by rw [← hr, List.take_append_drop]
  have hs : splitL 58 l = l.take k :: splitL 58 r := by
    conv => lhs; rw [hsp]
    exact splitL_cons 58 _ r hn
  have hgo : ∀ (t : List UInt8) (last : Bool), grpGo (l.take k :: splitL 58 t) last = (grpGo (splitL 58 t) last).map (valB 16 0 (l.take k) :: ·) := fun t last => grp_some _ _ _ _ hx (split_ne58 t)
  generalize valB 16 0 (l.take k) = v at hgo
  cases gap with
  | some m =>
    have hmG := hm m rfl
    rw [sp6_some, sp6_some]; unfold spB
    rw [if_neg (fun e => hl e.1), if_neg (fun e => by have := e.2; simp at this; omega), hs, hgo r true]
    cases grpGo (splitL 58 r) true with
    | none => rfl
    | some g => simp
  | none =>
    have hd : dblGo l 0 = (dblGo r 0).map (· + (k + 1)) := by
      conv => lhs; rw [hsp]
      rw [dbl_skip _ r 0 hn (hg rfl), hlen, Nat.zero_add, dbl_shift]
    rw [sp6_none, sp6_none]; unfold spA
    rw [hd]
    cases hq : dblGo r 0 with
    | none =>
      simp only [Option.map_none]
      rw [hs, hgo r true]
      cases grpGo (splitL 58 r) true with
      | none => rfl
      | some g => simp
    | some j =>
      simp only [Option.map_some]
      have ht : l.take (j + (k + 1)) = l.take k ++ 58 :: r.take j := by
        conv => lhs; rw [hsp]
        rw [show j + (k + 1) = (l.take k).length + (j + 1) by omega, List.take_length_add_append, List.take_succ_cons]
      have hdr : l.drop (j + (k + 1) + 2) = r.drop (j + 2) := by
        conv => lhs; rw [hsp]
        rw [show j + (k + 1) + 2 = (l.take k).length + (j + 2 + 1) by omega, List.drop_length_add_append, List.drop_succ_cons]
      rw [ht, hdr, splitL_cons 58 _ _ hn, hgo (r.take j) false]
      cases grpGo (splitL 58 (r.take j)) false with
      | none => rfl
      | some g => simp
end

end Go.Proofs.YthihfhmclmmadaaDoor
