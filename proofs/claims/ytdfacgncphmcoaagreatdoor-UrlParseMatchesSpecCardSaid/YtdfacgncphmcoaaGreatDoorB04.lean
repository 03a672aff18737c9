/-
Hosts in plain words: percent signs, names, what parsing answers, the text, and their laws. No program.
Superdomains and covering in plain words, and their laws. No program.
The text of an address, step by step: no program.
Lists of bytes cut at the first byte of a kind. No program.
URLs in plain words: what parsing answers, the text, the upgrade, and their laws. No program.
-/
import Derived.Test.YtdfacgncphmcoaaGreatDoorB02
import Derived.Test.YtdfacgncphmcoaaGreatDoorB03
import Derived.Test.YtdfacgncphmcoaaGreatDoorB00
import Derived.Lib.Bytealg
namespace Go.Proofs.YtdfacgncphmcoaaGreatDoor
section
open Go.RowKit
/-- A host. -/
structure Hv where
  kind : Int
  name : List UInt8
  v4 : Nat
  v6 : List Nat
def z8 : List Nat := zerosN 8
def hv0 : Hv := ⟨0, [], 0, z8⟩
def hvD (n : List UInt8) : Hv := ⟨1, n, 0, z8⟩
def hv4 (v : Nat) : Hv := ⟨2, [], v, z8⟩
def hv6 (g : List Nat) : Hv := ⟨3, [], 0, g⟩
def Hv.Wf (h : Hv) : Prop := h.v4 < 4294967296 ∧ h.v6.length = 8 ∧ G16 h.v6
/-- Percent signs with two digits are replaced. -/
def pctGo : Nat → List UInt8 → Option (List UInt8)
  | _, [] => some []
  | 0, _ :: _ => none
  | f + 1, b :: r => if b ≠ 37 then (pctGo f r).map (b :: ·)
    else if 2 ≤ r.length ∧ digV (r.getD 0 0) < 16 ∧ digV (r.getD 1 0) < 16 then (pctGo f (r.drop 2)).map (UInt8.ofNat (16 * digV (r.getD 0 0) + digV (r.getD 1 0)) :: ·) else none
def pctL (l : List UInt8) : Option (List UInt8) := pctGo l.length l
theorem pctGo_fuel : ∀ (f g : Nat) (l : List UInt8), l.length ≤ f → l.length ≤ g → pctGo f l = pctGo g l
  | f, g, [], _, _ => by cases f <;> cases g <;> rfl
  | 0, g, b :: l, h, _ => by simp at h
  | f, 0, b :: l, _, h => by simp at h
  | f + 1, g + 1, b :: l, hf, hg => by
    rw [pctGo, pctGo]
    simp only [List.length_cons] at hf hg
    rw [pctGo_fuel f g l (by omega) (by omega), pctGo_fuel f g (l.drop 2) (by rw [List.length_drop]; omega) (by rw [List.length_drop]; omega)]
theorem pctL_nil : pctL [] = some [] := rfl
theorem pctL_cons (b : UInt8) (r : List UInt8) (h : b ≠ 37) : pctL (b :: r) = (pctL r).map (b :: ·) := by
  unfold pctL
  rw [List.length_cons, pctGo, if_pos h]
theorem pctL_pct (x y : UInt8) (t : List UInt8) (hx : digV x < 16) (hy : digV y < 16) : pctL (37 :: x :: y :: t) = (pctL t).map (UInt8.ofNat (16 * digV x + digV y) :: ·) := by
  unfold pctL
  rw [List.length_cons, pctGo, if_neg (by simp), if_pos ⟨by simp, hx, hy⟩]
  rw [show (x :: y :: t).drop 2 = t from rfl, pctGo_fuel (x :: y :: t).length t.length t (by simp; omega) (Nat.le_refl _)]
  rfl
theorem pctL_bad (r : List UInt8) (h : ¬ (2 ≤ r.length ∧ digV (r.getD 0 0) < 16 ∧ digV (r.getD 1 0) < 16)) : pctL (37 :: r) = none := by
  unfold pctL
  rw [List.length_cons, pctGo, if_neg (by simp), if_neg h]
/-- The canonical forms of labels, or the first error. -/
def namesGo : List (List UInt8) → Nat × List (List UInt8)
  | [] => (0, [])
  | l :: r => if (toA l).1 = 0 then (if (namesGo r).1 = 0 then (0, (toA l).2 :: (namesGo r).2) else ((namesGo r).1, [])) else ((toA l).1, [])
theorem names_lab : ∀ (p q : List (List UInt8)), namesGo p = (0, q) → (∀ x ∈ q, labL x = true) ∧ q.length = p.length
  | [], q, h => by
    obtain ⟨_, rfl⟩ := Prod.mk.inj h
    exact ⟨by simp, rfl⟩
  | l :: r, q, h => by
    rw [namesGo] at h
    split at h
    · rename_i h0
      split at h
      · rename_i h1
        obtain ⟨_, rfl⟩ := Prod.mk.inj h
        obtain ⟨i1, i2⟩ := names_lab r (namesGo r).2 (by rw [← h1])
        refine ⟨?_, by rw [List.length_cons, i2, List.length_cons]⟩
        intro x hx
        rcases List.mem_cons.1 hx with rfl | hx
        · rcases toA_cases l with ⟨_, h2⟩ | ⟨h2, _⟩
          · exact h2
          · exact absurd h0 h2
        · exact i1 x hx
      · rename_i h1
        obtain ⟨h2, _⟩ := Prod.mk.inj h
        exact absurd h2 h1
    · rename_i h0
      obtain ⟨h2, _⟩ := Prod.mk.inj h
      exact absurd h2 h0
/-- A canonical domain name. -/
def vnL (n : List UInt8) : Bool := decide (n ≠ []) && decide (n.length ≤ 253) && !numericL n && (splitL 46 n).all labL
structure Vn (n : List UInt8) : Prop where
  ne : n ≠ []
  len : n.length ≤ 253
  num : numericL n = false
  lab : ∀ x ∈ splitL 46 n, labL x = true
theorem vn_iff (n : List UInt8) : vnL n = true ↔ Vn n := by
  unfold vnL
  simp only [Bool.and_eq_true, decide_eq_true_eq, Bool.not_eq_true', List.all_eq_true]
  exact ⟨fun ⟨⟨⟨a, b⟩, c⟩, d⟩ => ⟨a, b, c, d⟩, fun h => ⟨⟨⟨h.ne, h.len⟩, h.num⟩, h.lab⟩⟩
theorem lab_okN {l : List UInt8} (h : labL l = true) : ∀ b ∈ l, okN b.toNat = true := by
  unfold labL at h
  simp only [Bool.and_eq_true] at h
  exact fun b hb => List.all_eq_true.1 h.1.2 b hb
theorem lab_ne {l : List UInt8} (h : labL l = true) : l ≠ [] := by
  rintro rfl
  cases h
theorem okN_not {b : UInt8} (h : okN b.toNat = true) : b ≠ 37 ∧ b ≠ 46 ∧ b ≠ 91 ∧ b ≠ 93 := by
  unfold okN at h
  simp only [Bool.or_eq_true, Bool.and_eq_true, decide_eq_true_eq, beq_iff_eq] at h
  refine ⟨?_, ?_, ?_, ?_⟩ <;> (rintro rfl; revert h; decide)
theorem mem_joinL (c : UInt8) : ∀ (p : List (List UInt8)) (b : UInt8), b ∈ joinL c p → b = c ∨ ∃ x ∈ p, b ∈ x
  | [], b, h => by cases h
  | [a], b, h => .inr ⟨a, by simp, h⟩
  | a :: d :: r, b, h => by
    rw [joinL, List.mem_append, List.mem_cons] at h
    rcases h with h | h | h
    · exact .inr ⟨a, by simp, h⟩
    · exact .inl h
    · rcases mem_joinL c (d :: r) b h with h | ⟨x, hx, hb⟩
      · exact .inl h
      · exact .inr ⟨x, by simp at hx ⊢; exact .inr hx, hb⟩
theorem labs_noB {p : List (List UInt8)} (h : ∀ x ∈ p, labL x = true) : ∀ x ∈ p, noB 46 x := fun x hx b hb => (okN_not (lab_okN (h x hx) b hb)).2.1
theorem labs_bytes {p : List (List UInt8)} (h : ∀ x ∈ p, labL x = true) : ∀ b ∈ joinL 46 p, b = 46 ∨ okN b.toNat = true := by
  intro b hb
  rcases mem_joinL 46 p b hb with hb | ⟨x, hx, hb⟩
  · exact .inl hb
  · exact .inr (lab_okN (h x hx) b hb)
theorem Vn.bytes {n : List UInt8} (h : Vn n) : ∀ b ∈ n, b = 46 ∨ okN b.toNat = true := by
  have := labs_bytes h.lab
  rwa [join_splitL] at this
theorem Vn.low {n : List UInt8} (h : Vn n) : ∀ b ∈ n, lowU b = b ∧ b.toNat < 128 := by
  intro b hb
  rcases h.bytes b hb with rfl | hb
  · exact ⟨by decide, by decide⟩
  · have := okN_ascii hb
    exact ⟨lowU_small (by omega), this.1⟩
theorem split_dot_lab {m : List UInt8} (h : ∀ x ∈ splitL 46 (m ++ [46]), labL x = true) : False := by
  have : splitL 46 (m ++ [46]) = splitL 46 m ++ [[]] := splitG_dot 46 m []
  rw [this] at h
  exact lab_ne (h [] (by simp)) rfl
theorem Vn.last {n : List UInt8} (h : Vn n) : n.getLast? ≠ some 46 := by
  intro hl
  obtain ⟨m, rfl⟩ := List.getLast?_eq_some_iff.1 hl
  exact split_dot_lab h.lab
theorem vn_join {q : List (List UInt8)} (h : ∀ x ∈ q, labL x = true) (hq : q ≠ []) (hl : (joinL 46 q).length ≤ 253) (hn : numericL (joinL 46 q) = false) : Vn (joinL 46 q) := by
  refine ⟨?_, hl, hn, ?_⟩
  · cases q with
    | nil => exact absurd rfl hq
    | cons a r =>
      have ha := lab_ne (h a (by simp))
      cases r with
      | nil => exact ha
      | cons b r => rw [joinL]; simp
  · rw [split_joinL 46 q hq (labs_noB h)]
    exact h
/-- What parsing answers. -/
def parseD (s : List UInt8) : Nat × Hv :=
  if numericL s = true then (match pnL s with
    | none => (14, hv0)
    | some v => (0, hv4 v))
  else if (namesGo (splitL 46 s)).1 = 0 then
    (if 253 < (joinL 46 (namesGo (splitL 46 s)).2).length then (3, hv0) else if numericL (joinL 46 (namesGo (splitL 46 s)).2) = true then (14, hv0) else (0, hvD (joinL 46 (namesGo (splitL 46 s)).2)))
  else ((namesGo (splitL 46 s)).1, hv0)
def parse6H (raw : List UInt8) : Nat × Hv := if raw.getLast? ≠ some 93 ∨ raw.length < 2 then (14, hv0) else match parse6 ((raw.drop 1).dropLast) with
  | none => (14, hv0)
  | some g => (0, hv6 g)
def parseH (raw : List UInt8) : Nat × Hv :=
  if 1024 < raw.length then (3, hv0)
  else if raw.head? = some 91 then parse6H raw
  else match pctL raw with
    | none => (14, hv0)
    | some s => parseD (undot s)
def validH (h : Hv) : Bool := if h.kind = 1 then vnL h.name && h.v4 == 0 && h.v6 == z8 else if h.kind = 2 then h.name.isEmpty && h.v6 == z8 else if h.kind = 3 then h.name.isEmpty && h.v4 == 0 else false
def fmtT (h : Hv) : List UInt8 := if h.kind = 1 then h.name else if h.kind = 2 then fmtI h.v4 else 91 :: (fmt6 h.v6 ++ [93])
def fmtH (h : Hv) : List UInt8 := if validH h = true then fmtT h else []
/-! ### small letters do not matter for numbers -/
theorem Vn.lowL {n : List UInt8} (h : Vn n) : lowL n = n := by
  unfold Go.Proofs.YtdfacgncphmcoaaGreatDoor.lowL
  have : n.map lowU = n.map id := List.map_congr_left fun b hb => (h.low b hb).1
  rw [this, List.map_id]
/-! ### the laws -/
theorem dec_l3 {u : Nat} (h : u < 256) : (Lib.decDigits u).length ≤ 3 := by
  have key : ∀ n : Fin 256, (Lib.decDigits n.val).length ≤ 3 := by decide +kernel
  exact key ⟨u, h⟩
theorem fmtI_len {v : Nat} (h : v < 4294967296) : (fmtI v).length ≤ 15 := by
  unfold fmtI
  simp only [joinL, List.length_append, List.length_cons]
  have h1 := dec_l3 (u := v / 16777216) (by omega)
  have h2 := dec_l3 (u := v / 65536 % 256) (by omega)
  have h3 := dec_l3 (u := v / 256 % 256) (by omega)
  have h4 := dec_l3 (u := v % 256) (by omega)
  omega
theorem valid_kinds {h : Hv} (hv : validH h = true) : (Vn h.name ∧ h = hvD h.name) ∨ h = hv4 h.v4 ∨ h = hv6 h.v6 := by
  obtain ⟨k, n, v, g⟩ := h
  unfold validH at hv
  simp only at hv
  split at hv
  · rename_i hk
    simp only [Bool.and_eq_true, beq_iff_eq] at hv
    obtain ⟨⟨h1, h2⟩, h3⟩ := hv
    exact .inl ⟨(vn_iff n).1 h1, by unfold hvD; rw [hk, h2, h3]⟩
  · split at hv
    · rename_i _ hk
      simp only [Bool.and_eq_true, beq_iff_eq, List.isEmpty_iff] at hv
      exact .inr (.inl (by unfold hv4; rw [hk, hv.1, hv.2]))
    · split at hv
      · rename_i _ _ hk
        simp only [Bool.and_eq_true, beq_iff_eq, List.isEmpty_iff] at hv
        exact .inr (.inr (by unfold hv6; rw [hk, hv.1, hv.2]))
      · cases hv
theorem valid_D {n : List UInt8} (h : Vn n) : validH (hvD n) = true := by
  unfold validH hvD
  simp [(vn_iff n).2 h]
theorem valid_4 (v : Nat) : validH (hv4 v) = true := by
  unfold validH hv4
  simp
theorem valid_6 (g : List Nat) : validH (hv6 g) = true := by
  unfold validH hv6
  simp
theorem hexL_lt {l : List UInt8} {v : Nat} (h : hexL l = some v) : v < 65536 := by
  unfold hexL at h
  split at h
  · rename_i hc
    injection h with h
    subst h
    have key : ∀ (l : List UInt8) (a : Nat), l.all (fun c => decide (digV c < 16)) = true → valB 16 a l < (a + 1) * 16 ^ l.length := by
      intro l
      induction l with
      | nil => intro a _; rw [valB]; simp
      | cons c l ih =>
        intro a h
        rw [List.all_cons, Bool.and_eq_true] at h
        have hc := of_decide_eq_true h.1
        have h2 := ih (a * 16 + digV c) h.2
        rw [valB, List.length_cons, Nat.pow_succ]
        have h3 : (a * 16 + digV c + 1) * 16 ^ l.length ≤ ((a + 1) * 16) * 16 ^ l.length := Nat.mul_le_mul_right _ (by omega)
        have h4 : (a + 1) * 16 * 16 ^ l.length = (a + 1) * (16 ^ l.length * 16) := by rw [Nat.mul_assoc, Nat.mul_comm 16]
        omega
    have h1 := key l 0 hc.2
    have h2 : 16 ^ l.length ≤ 16 ^ 4 := Nat.pow_le_pow_right (by omega) hc.1.2
    have h3 : (16 : Nat) ^ 4 = 65536 := rfl
    omega
  · cases h
theorem grpGo_16 : ∀ (p : List (List UInt8)) (last : Bool) (g : List Nat), grpGo p last = some g → G16 g
  | [], last, g, h => by
    injection h with h
    subst h
    intro x hx
    cases hx
  | [x], last, g, h => by
    rw [grpGo] at h
    split at h
    · rename_i v hv
      injection h with h
      subst h
      have hlt : v < 4294967296 := by
        split at hv
        · exact (parseL_some hv).1
        · cases hv
      intro y hy
      simp only [List.mem_cons, List.not_mem_nil, or_false] at hy
      omega
    · split at h
      · rename_i v hv
        injection h with h
        subst h
        intro y hy
        simp only [List.mem_cons, List.not_mem_nil, or_false] at hy
        rw [hy]
        exact hexL_lt hv
      · cases h
  | x :: y :: r, last, g, h => by
    rw [grpGo] at h
    split at h
    · cases h
    · rename_i v hv
      split at h
      · cases h
      · rename_i m hm
        injection h with h
        subst h
        intro z hz
        rcases List.mem_cons.1 hz with rfl | hz
        · exact hexL_lt hv
        · exact grpGo_16 (y :: r) last m hm z hz
theorem groupsL_16 {l : List UInt8} {last : Bool} {g : List Nat} (h : groupsL l last = some g) : G16 g := by
  unfold groupsL at h
  split at h
  · injection h with h
    subst h
    intro x hx
    cases hx
  · exact grpGo_16 _ _ _ h
theorem parse6_wf {l : List UInt8} {g : List Nat} (h : parse6 l = some g) : g.length = 8 ∧ G16 g := by
  unfold parse6 at h
  split at h
  · split at h
    · rename_i m hm
      split at h
      · rename_i h8
        injection h with h
        subst h
        exact ⟨h8, groupsL_16 hm⟩
      · cases h
    · cases h
  · split at h
    · cases h
    · rename_i a ha
      split at h
      · cases h
      · rename_i b hb
        split at h
        · rename_i h7
          injection h with h
          subst h
          refine ⟨by simp [zerosN]; omega, ?_⟩
          intro x hx
          simp only [List.mem_append] at hx
          rcases hx with hx | hx | hx
          · exact groupsL_16 ha x hx
          · have := (List.mem_replicate.1 hx).2
            omega
          · exact groupsL_16 hb x hx
        · cases h
theorem z8_wf : z8.length = 8 ∧ G16 z8 := ⟨rfl, by intro x hx; have := (List.mem_replicate.1 hx).2; omega⟩
theorem hv0_wf : hv0.Wf := ⟨by decide, z8_wf.1, z8_wf.2⟩
/-- Whatever parsing answers can be read, and is valid where there is no error. -/
theorem parse_valid (raw : List UInt8) : (parseH raw).2.Wf ∧ ((parseH raw).1 = 0 ∧ validH (parseH raw).2 = true ∨ (parseH raw).1 ≠ 0 ∧ (parseH raw).2 = hv0) := by
  have bad : ∀ e : Nat, e ≠ 0 → ((e, hv0) : Nat × Hv).2.Wf ∧ (((e, hv0) : Nat × Hv).1 = 0 ∧ validH ((e, hv0) : Nat × Hv).2 = true ∨ ((e, hv0) : Nat × Hv).1 ≠ 0 ∧ ((e, hv0) : Nat × Hv).2 = hv0) := fun e he => ⟨hv0_wf, .inr ⟨he, rfl⟩⟩
  unfold parseH
  split
  · exact bad 3 (by decide)
  · split
    · unfold parse6H
      split
      · exact bad 14 (by decide)
      · split
        · exact bad 14 (by decide)
        · rename_i g hg
          have := parse6_wf hg
          exact ⟨⟨show (0 : Nat) < 4294967296 by omega, this.1, this.2⟩, .inl ⟨rfl, valid_6 g⟩⟩
    · split
      · exact bad 14 (by decide)
      · unfold parseD
        split
        · split
          · exact bad 14 (by decide)
          · rename_i v hv
            exact ⟨⟨pnL_range hv, z8_wf.1, z8_wf.2⟩, .inl ⟨rfl, valid_4 v⟩⟩
        · split
          · rename_i h0
            split
            · exact bad 3 (by decide)
            · split
              · exact bad 14 (by decide)
              · rename_i s _ _ hl hn
                obtain ⟨q1, q2⟩ := names_lab (splitL 46 (undot s)) (namesGo (splitL 46 (undot s))).2 (by rw [← h0])
                have hq : (namesGo (splitL 46 (undot s))).2 ≠ [] := by
                  intro e
                  rw [e] at q2
                  have := splitL_pos 46 (undot s)
                  simp at q2
                  omega
                exact ⟨⟨show (0 : Nat) < 4294967296 by omega, z8_wf.1, z8_wf.2⟩, .inl ⟨rfl, valid_D (vn_join q1 hq (by omega) (by simpa using hn))⟩⟩
          · rename_i h0
            exact bad _ h0
end

section
open Go.RowKit
/-! ### superdomains -/
def labelsL (n : List UInt8) : Nat := if vnL n = true then (splitL 46 n).length else 0
def ChainS : List UInt8 → List (List UInt8) → Prop
  | _, [] => True
  | prev, x :: t => (46 :: x) <:+ prev ∧ vnL x = true ∧ ChainS x t
theorem ChainS.at_ : ∀ {L : List (List UInt8)} {prev : List UInt8}, ChainS prev L → ∀ (k : Nat) (hk : k < L.length), (46 :: L[k]) <:+ (if k = 0 then prev else L.getD (k - 1) []) ∧ vnL L[k] = true
  | [], _, _, k, hk => absurd hk (by simp)
  | x :: t, prev, h, 0, _ => ⟨h.1, h.2.1⟩
  | x :: t, prev, h, k + 1, hk => by
    have h1 := ChainS.at_ h.2.2 k (by simpa using hk)
    refine ⟨?_, h1.2⟩
    rw [if_neg (by omega), show k + 1 - 1 = k from rfl]
    have h2 := h1.1
    cases k with
    | zero => exact h2
    | succ j => exact h2
end

section
open Go.RowKit
theorem join_snoc58 (x : List UInt8) : ∀ Q : List (List UInt8), joinL 58 (Q ++ [x]) = joinL 58 Q ++ ((if Q = [] then [] else [58]) ++ x)
  | [] => rfl
  | [a] => rfl
  | a :: b :: r => by
    have ih := join_snoc58 x (b :: r)
    rw [if_neg (by simp)] at ih ⊢
    rw [List.cons_append, joinL_cons 58 a _ (by simp), ih, joinL_cons 58 a (b :: r) (by simp)]
    simp
theorem take_snoc (a : List Nat) (k : Nat) (h : k < a.length) : a.take (k + 1) = a.take k ++ [a.getD k 0] := by
  rw [List.take_succ_eq_append_getElem h, List.getD_eq_getElem?_getD, List.getElem?_eq_getElem h, Option.getD_some]
theorem join_len (P : List Nat) (h : G16 P) : (joinL 58 (P.map hexT)).length ≤ 5 * P.length := by
  induction P with
  | nil => simp [joinL]
  | cons a r ih =>
    have h1 := (hexT_len a (h a (by simp))).2
    have ih := ih (fun x hx => h x (by simp [hx]))
    cases r with
    | nil => simp [joinL]; omega
    | cons b r =>
      simp only [List.map_cons] at ih ⊢
      rw [joinL]
      simp at ih ⊢
      omega
theorem txt6_len (a : List Nat) (ha : G16 a) (t : Int) (m k : Nat) (hk : k ≤ 8) : (txt6 a t m k).length ≤ 82 := by
  unfold txt6
  split
  · have := join_len (a.take k) (ha.take k); simp only [List.length_take] at this; omega
  · have h1 := join_len (a.take t.toNat) (ha.take _)
    have h2 := join_len ((a.take k).drop (t.toNat + m)) ((ha.take k).drop _)
    rw [List.length_append, List.length_cons, List.length_cons]
    rename_i hh
    simp only [List.length_take, List.length_drop] at h1 h2
    omega
end

section
open Go.RowKit
/-- What stands before the first byte of a kind, and what stands from it on. -/
def befL (p : UInt8 → Bool) (l : List UInt8) : List UInt8 := l.takeWhile fun b => !p b
def fromL (p : UInt8 → Bool) (l : List UInt8) : List UInt8 := l.dropWhile fun b => !p b
def isB (c : UInt8) (b : UInt8) : Bool := b == c
theorem bef_from (p : UInt8 → Bool) (l : List UInt8) : befL p l ++ fromL p l = l := List.takeWhile_append_dropWhile
theorem bef_not (p : UInt8 → Bool) : ∀ (l : List UInt8), ∀ b ∈ befL p l, p b = false
  | [], b, h => by cases h
  | a :: l, b, h => by
    unfold befL at h
    rw [List.takeWhile_cons] at h
    split at h
    · rename_i ha
      rcases List.mem_cons.1 h with rfl | h
      · simpa using ha
      · exact bef_not p l b h
    · cases h
theorem from_head (p : UInt8 → Bool) : ∀ (l : List UInt8) (b : UInt8) (r : List UInt8), fromL p l = b :: r → p b = true
  | [], b, r, h => by cases h
  | a :: l, b, r, h => by
    unfold fromL at h
    rw [List.dropWhile_cons] at h
    split at h
    · exact from_head p l b r h
    · rename_i ha
      injection h with h1 h2
      rw [← h1]
      simpa using ha
theorem bef_nil {p : UInt8 → Bool} {l : List UInt8} (h : ∀ b ∈ l, p b = false) : befL p l = l ∧ fromL p l = [] := by
  have h1 := bef_from p l
  have h2 : fromL p l = [] := by
    cases hf : fromL p l with
    | nil => rfl
    | cons b r =>
      have := from_head p l b r hf
      have hm : b ∈ l := by rw [← h1, hf]; simp
      rw [h b hm] at this
      cases this
  rw [h2, List.append_nil] at h1
  exact ⟨h1, h2⟩
theorem bef_app {p : UInt8 → Bool} {a b : List UInt8} (ha : ∀ x ∈ a, p x = false) (c : UInt8) (r : List UInt8) (hb : b = c :: r) (hc : p c = true) : befL p (a ++ b) = a ∧ fromL p (a ++ b) = b := by
  subst hb
  induction a with
  | nil =>
    unfold befL fromL
    rw [List.nil_append, List.takeWhile_cons, List.dropWhile_cons, if_neg (by rw [hc]; simp), if_neg (by rw [hc]; simp)]
    exact ⟨rfl, rfl⟩
  | cons x a ih =>
    have hx := ha x (by simp)
    obtain ⟨i1, i2⟩ := ih (fun y hy => ha y (by simp [hy]))
    unfold befL fromL at *
    rw [List.cons_append, List.takeWhile_cons, List.dropWhile_cons, if_pos (by rw [hx]; rfl), if_pos (by rw [hx]; rfl), i1, i2]
    exact ⟨rfl, rfl⟩
theorem any_isB {c : UInt8} {l : List UInt8} : l.any (isB c) = true ↔ c ∈ l := by
  rw [List.any_eq_true]
  constructor
  · rintro ⟨x, hx, h⟩
    have : x = c := by simpa [isB] using h
    rwa [← this]
  · exact fun h => ⟨c, h, by simp [isB]⟩
theorem none_any {p : UInt8 → Bool} {l : List UInt8} (h : ∀ b ∈ l, p b = false) : l.any p = false := by
  cases ha : l.any p with
  | false => rfl
  | true =>
    obtain ⟨x, hx, hp⟩ := List.any_eq_true.1 ha
    rw [h x hx] at hp
    cases hp
theorem indexByte_cut (c : UInt8) : ∀ l : List UInt8, (Lib.indexByte l c = -1 ∧ befL (isB c) l = l ∧ fromL (isB c) l = []) ∨ ∃ r, fromL (isB c) l = c :: r ∧ Lib.indexByte l c = ((befL (isB c) l).length : Int)
  | [] => .inl ⟨rfl, rfl, rfl⟩
  | b :: l => by
    by_cases hb : b = c
    · subst hb
      right
      refine ⟨l, ?_, ?_⟩
      · unfold fromL
        rw [List.dropWhile_cons, if_neg (by simp [isB])]
      · have e : befL (isB b) (b :: l) = [] := by
          unfold befL
          rw [List.takeWhile_cons, if_neg (by simp [isB])]
        rw [e, Lib.indexByte, if_pos (by simp)]
        rfl
    · have hb2 : (b == c) = false := by simpa using hb
      have e1 : befL (isB c) (b :: l) = b :: befL (isB c) l := by
        unfold befL
        rw [List.takeWhile_cons, if_pos (by simp [isB, hb])]
      have e2 : fromL (isB c) (b :: l) = fromL (isB c) l := by
        unfold fromL
        rw [List.dropWhile_cons, if_pos (by simp [isB, hb])]
      rw [e1, e2]
      rcases indexByte_cut c l with ⟨h1, h2, h3⟩ | ⟨r, h1, h2⟩
      · left
        refine ⟨?_, by rw [h2], h3⟩
        rw [Lib.indexByte, hb2, h1]; rfl
      · right
        refine ⟨r, h1, ?_⟩
        rw [Lib.indexByte, hb2, h2]
        have h4 : (((befL (isB c) l).length : Int) == -1) = false := by
          rw [beq_eq_false_iff_ne]
          omega
        rw [h4]
        simp
end

section
open Go.RowKit
/-- A URL. -/
structure Uv where
  scheme : List UInt8
  user : List UInt8
  host : Hv
  port : Int
  rest : List UInt8
def uv0 : Uv := ⟨[], [], hv0, 0, []⟩
def sHttp : List UInt8 := [104, 116, 116, 112]
def sHttps : List UInt8 := [104, 116, 116, 112, 115]
def sWs : List UInt8 := [119, 115]
def sWss : List UInt8 := [119, 115, 115]
def insL (s : List UInt8) : Bool := s == sHttp || s == sWs
def stdP (s : List UInt8) : Int := if insL s = true then 80 else if (s == sHttps || s == sWss) = true then 443 else -1
def specL (s : List UInt8) : Bool := insL s || s == sHttps || s == sWss
def secL (s : List UInt8) : List UInt8 := if s == sHttp then sHttps else sWss
def exclB (b : UInt8) : Bool := decide (b.toNat ≤ 32) || b == 127
def letB (b : UInt8) : Bool := (decide (97 ≤ b.toNat) && decide (b.toNat ≤ 122)) || (decide (65 ≤ b.toNat) && decide (b.toNat ≤ 90))
def folB (b : UInt8) : Bool := (decide (48 ≤ b.toNat) && decide (b.toNat ≤ 57)) || b == 43 || b == 45 || b == 46
def schL : List UInt8 → Bool
  | [] => false
  | b :: r => letB b && r.all fun c => letB c || folB c
def endA (b : UInt8) : Bool := b == 47 || b == 63 || b == 35
def userL (l : List UInt8) : List UInt8 := ((fromL (isB 64) l.reverse).drop 1).reverse
def addrL (l : List UInt8) : List UInt8 := (befL (isB 64) l.reverse).reverse
def portP (d : List UInt8) (std : Int) : Option Int :=
  if d = [] then some (-1) else if d.all digitU = true then (if 65535 < valB 10 0 d then none else if (valB 10 0 d : Int) = std then some (-1) else some (valB 10 0 d : Int)) else none
def cutB (a : List UInt8) : Option (List UInt8 × List UInt8) := match fromL (isB 93) a with
  | [] => none
  | _ :: [] => some (befL (isB 93) a ++ [93], [])
  | _ :: c :: d => if c = 58 then some (befL (isB 93) a ++ [93], d) else none
def cutP (a : List UInt8) : Option (List UInt8 × List UInt8) := if a.head? = some 91 then cutB a else some (befL (isB 58) a, (fromL (isB 58) a).drop 1)
def restP (r : List UInt8) : List UInt8 := if r.head? = some 47 then r else 47 :: r
def hostP (sch user rest n d : List UInt8) : Nat × Uv :=
  if (parseH n).1 = 0 then (match portP d (stdP sch) with
    | none => (16, uv0)
    | some p => (0, ⟨sch, user, (parseH n).2, p, restP rest⟩))
  else ((parseH n).1, uv0)
def authP (sch auth rest : List UInt8) : Nat × Uv := match cutP (addrL auth) with
  | none => (4, uv0)
  | some q => hostP sch (userL auth) rest q.1 q.2
def specP (sch r : List UInt8) : Nat × Uv := if r.take 2 = [47, 47] then authP sch (befL endA (r.drop 2)) (fromL endA (r.drop 2)) else (4, uv0)
def parseU (l : List UInt8) : Nat × Uv :=
  if l.any exclB = true then (4, uv0)
  else if (l.any (isB 58) && schL (befL (isB 58) l)) = true then
    (if specL (lowL (befL (isB 58) l)) = true then specP (lowL (befL (isB 58) l)) ((fromL (isB 58) l).drop 1) else (0, ⟨lowL (befL (isB 58) l), [], hv0, -1, (fromL (isB 58) l).drop 1⟩))
  else (15, uv0)
def parseUL (l : List UInt8) : Nat × Uv := if 2048 < l.length then (3, uv0) else parseU l
def userT (s : List UInt8) : List UInt8 := if s = [] then [] else s ++ [64]
def upU (u : Uv) : Uv := if insL u.scheme = true then ⟨secL u.scheme, u.user, u.host, if u.port = 443 then -1 else u.port, u.rest⟩ else u
/-! ### cutting -/
/-- The last at sign. -/
theorem at_none {l : List UInt8} (h : 64 ∉ l) : userL l = [] ∧ addrL l = l := by
  have hh : ∀ b ∈ l.reverse, isB 64 b = false := by
    intro b hb
    have : b ≠ 64 := fun e => h (by rw [← e]; exact List.mem_reverse.1 hb)
    simpa [isB] using this
  obtain ⟨h1, h2⟩ := bef_nil hh
  unfold userL addrL
  rw [h1, h2]
  simp
theorem at_some {u a : List UInt8} (h : 64 ∉ a) : userL (u ++ 64 :: a) = u ∧ addrL (u ++ 64 :: a) = a := by
  have hh : ∀ b ∈ a.reverse, isB 64 b = false := by
    intro b hb
    have : b ≠ 64 := fun e => h (by rw [← e]; exact List.mem_reverse.1 hb)
    simpa [isB] using this
  have e : (u ++ 64 :: a).reverse = a.reverse ++ 64 :: u.reverse := by simp
  obtain ⟨h1, h2⟩ := bef_app hh (b := 64 :: u.reverse) 64 u.reverse rfl (by simp [isB])
  unfold userL addrL
  rw [e, h1, h2]
  simp
theorem at_cases (l : List UInt8) : (64 ∉ l ∧ userL l = [] ∧ addrL l = l) ∨ (l = userL l ++ 64 :: addrL l ∧ 64 ∉ addrL l) := by
  have h1 := bef_from (isB 64) l.reverse
  have h2 : 64 ∉ addrL l := by
    unfold addrL
    rw [List.mem_reverse]
    intro hm
    have := bef_not (isB 64) l.reverse 64 hm
    simp [isB] at this
  cases hf : fromL (isB 64) l.reverse with
  | nil =>
    left
    rw [hf, List.append_nil] at h1
    have e : addrL l = l := by unfold addrL; rw [h1, List.reverse_reverse]
    rw [e] at h2
    exact ⟨h2, (at_none h2).1, e⟩
  | cons b r =>
    right
    have hb : b = 64 := by simpa [isB] using from_head (isB 64) _ b r hf
    have e : l = userL l ++ 64 :: addrL l := by
      unfold userL addrL
      rw [hf, List.drop_succ_cons, List.drop_zero]
      have := congrArg List.reverse h1
      rw [hf, hb, List.reverse_reverse] at this
      exact this.symm.trans (by simp)
    exact ⟨e, h2⟩
/-! ### kinds of bytes -/
theorem let_not (b : UInt8) (h : (letB b || folB b) = true) : exclB b = false ∧ isB 58 b = false ∧ endA b = false := by
  have key : ∀ n : Fin 256, (letB (UInt8.ofNat n.val) || folB (UInt8.ofNat n.val)) = true → exclB (UInt8.ofNat n.val) = false ∧ isB 58 (UInt8.ofNat n.val) = false ∧ endA (UInt8.ofNat n.val) = false := by decide +kernel
  have := key ⟨b.toNat, b.toNat_lt⟩
  simp only [UInt8.ofNat_toNat] at this
  exact this h
theorem let_low (b : UInt8) : letB (lowU b) = letB b ∧ folB (lowU b) = folB b ∧ exclB (lowU b) = exclB b ∧ isB 58 (lowU b) = isB 58 b := by
  have key : ∀ n : Fin 256, letB (lowU (UInt8.ofNat n.val)) = letB (UInt8.ofNat n.val) ∧ folB (lowU (UInt8.ofNat n.val)) = folB (UInt8.ofNat n.val) ∧ exclB (lowU (UInt8.ofNat n.val)) = exclB (UInt8.ofNat n.val) ∧ isB 58 (lowU (UInt8.ofNat n.val)) = isB 58 (UInt8.ofNat n.val) := by decide +kernel
  have := key ⟨b.toNat, b.toNat_lt⟩
  simp only [UInt8.ofNat_toNat] at this
  exact this
theorem sch_all {s : List UInt8} (h : schL s = true) : ∀ b ∈ s, (letB b || folB b) = true := by
  cases s with
  | nil => cases h
  | cons a r =>
    unfold schL at h
    rw [Bool.and_eq_true, List.all_eq_true] at h
    intro b hb
    rcases List.mem_cons.1 hb with rfl | hb
    · rw [h.1]; rfl
    · exact h.2 b hb
theorem sch_low (s : List UInt8) : schL (lowL s) = schL s := by
  cases s with
  | nil => rfl
  | cons a r =>
    show (letB (lowU a) && (r.map lowU).all _) = _
    rw [List.all_map, (let_low a).1]
    unfold schL
    congr 2
    funext c
    show (letB (lowU c) || folB (lowU c)) = _
    rw [(let_low c).1, (let_low c).2.1]
def hosB (b : UInt8) : Prop := exclB b = false ∧ endA b = false ∧ b ≠ 64
instance (b : UInt8) : Decidable (hosB b) := by unfold hosB; infer_instance
/-! ### what is parsed is good -/
structure UGood (u : Uv) : Prop where
  sch : schL u.scheme = true
  low : lowL u.scheme = u.scheme
  exu : ∀ b ∈ u.user, exclB b = false
  exr : ∀ b ∈ u.rest, exclB b = false
  wf : u.host.Wf
  spec : specL u.scheme = true → validH u.host = true ∧ (∀ b ∈ u.user, endA b = false) ∧ u.rest.head? = some 47 ∧ (u.port = -1 ∨ (0 ≤ u.port ∧ u.port ≤ 65535 ∧ u.port ≠ stdP u.scheme))
  plain : specL u.scheme = false → u.user = [] ∧ u.host = hv0 ∧ u.port = -1
theorem portP_range {d : List UInt8} {std p : Int} (h : portP d std = some p) : p = -1 ∨ (0 ≤ p ∧ p ≤ 65535 ∧ p ≠ std) := by
  unfold portP at h
  split at h
  · injection h with h
    exact .inl h.symm
  · split at h
    · split at h
      · cases h
      · rename_i h1
        split at h
        · injection h with h
          exact .inl h.symm
        · rename_i h2
          injection h with h
          subst h
          exact .inr ⟨by omega, by omega, h2⟩
    · cases h
/-! ### good URLs are read back -/
/-! ### upgrades -/
theorem ins_cases {s : List UInt8} (h : insL s = true) : s = sHttp ∨ s = sWs := by
  unfold insL at h
  simpa using h
theorem sec_facts : ∀ s, insL s = true → schL (secL s) = true ∧ lowL (secL s) = secL s ∧ specL s = true ∧ specL (secL s) = true ∧ insL (secL s) = false ∧ stdP (secL s) = 443 ∧ stdP s = 80 := by
  intro s h
  rcases ins_cases h with rfl | rfl <;> decide +kernel
theorem good_up {u : Uv} (h : UGood u) : UGood (upU u) := by
  unfold upU
  split
  · rename_i hi
    obtain ⟨f1, f2, f3, f4, f5, f6, f7⟩ := sec_facts u.scheme hi
    obtain ⟨g1, g2, g3, g4⟩ := h.spec f3
    refine ⟨f1, f2, h.exu, h.exr, h.wf, fun _ => ⟨g1, g2, g3, ?_⟩, fun h9 => ?_⟩
    · show (if u.port = 443 then -1 else u.port) = -1 ∨ (0 ≤ (if u.port = 443 then -1 else u.port) ∧ (if u.port = 443 then -1 else u.port) ≤ 65535 ∧ (if u.port = 443 then -1 else u.port) ≠ stdP (secL u.scheme))
      rw [f6]
      split
      · exact .inl rfl
      · rename_i hp
        rcases g4 with g4 | g4
        · exact .inl g4
        · exact .inr ⟨g4.1, g4.2.1, hp⟩
    · rw [show (Uv.mk (secL u.scheme) u.user u.host (if u.port = 443 then -1 else u.port) u.rest).scheme = secL u.scheme from rfl, f4] at h9
      cases h9
  · exact h
theorem up_up (u : Uv) : upU (upU u) = upU u := by
  by_cases hi : insL u.scheme = true
  · have f5 := (sec_facts u.scheme hi).2.2.2.2.1
    have e : upU u = ⟨secL u.scheme, u.user, u.host, if u.port = 443 then -1 else u.port, u.rest⟩ := by unfold upU; rw [if_pos hi]
    rw [e]
    unfold upU
    rw [if_neg (by rw [f5]; simp)]
  · have e : upU u = u := by unfold upU; rw [if_neg hi]
    rw [e, e]
/-! ### the scheme's letters -/
theorem low_any (p : UInt8 → Bool) (hp : ∀ b, p (lowU b) = p b) (l : List UInt8) : (lowL l).any p = l.any p := by
  unfold lowL
  rw [List.any_map]
  congr 1
  funext b
  exact hp b
/-- Small letters in front of the first colon change nothing. -/
theorem parse_low (l : List UInt8) : parseU (lowL (befL (isB 58) l) ++ fromL (isB 58) l) = parseU l := by
  have h1 := bef_from (isB 58) l
  obtain ⟨a, ha⟩ : ∃ a, a = befL (isB 58) l := ⟨_, rfl⟩
  obtain ⟨r, hr⟩ : ∃ r, r = fromL (isB 58) l := ⟨_, rfl⟩
  have h58 : ∀ b ∈ a, isB 58 b = false := by rw [ha]; exact bef_not _ l
  have h58' : ∀ b ∈ lowL a, isB 58 b = false := by
    intro b hb
    obtain ⟨c, hc, rfl⟩ := List.mem_map.1 hb
    rw [(let_low c).2.2.2]
    exact h58 c hc
  have hB : befL (isB 58) (lowL a ++ r) = lowL a ∧ fromL (isB 58) (lowL a ++ r) = r := by
    cases hr' : r with
    | nil => rw [List.append_nil]; exact bef_nil h58'
    | cons c t =>
      refine bef_app h58' c t rfl ?_
      exact from_head (isB 58) l c t (by rw [← hr, hr'])
  rw [← ha, ← hr]
  have hx : (lowL a ++ r).any exclB = l.any exclB := by
    rw [← h1, ← ha, ← hr, List.any_append, List.any_append, low_any exclB (fun b => (let_low b).2.2.1)]
  have hc : (lowL a ++ r).any (isB 58) = l.any (isB 58) := by
    rw [← h1, ← ha, ← hr, List.any_append, List.any_append, low_any (isB 58) (fun b => (let_low b).2.2.2)]
  unfold parseU
  rw [hx, hc, hB.1, hB.2, lowL_lowL, sch_low, ← ha, ← hr]
end

end Go.Proofs.YtdfacgncphmcoaaGreatDoor
